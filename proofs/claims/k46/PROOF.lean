import PyProof.Rows.All
import Wide.All
import OpenK.AllK
import Wide.FinOn
import KE.KDictZip
import KE.KDictItemsList
import HandS.Base
import HandS.Call
import HandS.List
import HandS.Comp
import HandS.Ends
import HandS.Iter
import HandS.Words
import HandS.WordsList
import HandS.SortInts
import HandS.IsInst
import HandS.Wide
import HandS.Style
import HandS.SetFor
import HandS.Dict
import HandS.Evl
import HandS.WordsDict
import HandS.Nested
import HandS.EndTab
import HandS.Sort
import HandS.SortOrd
import HandS.SortRule
import HandS.Conv
import HandS.Walk
import HandS.Steps
import HandS.TryOnly
import HandS.ForExc
import HandS.ExcIs
import HandS.Zip
import PyProof.StrBlock2
import HandS.Text
import HandS.ListItems
import PyProof.Rows.IntBool
import PyProof.NeKinds
import PyProof.EqKinds
import PySem.Challenge.RW_sumplace_k46_papers_looked_at
set_option Elab.async false
set_option linter.all false
set_option maxRecDepth 100000
set_option maxHeartbeats 4000000
/-! list(enumerate(xs)): the tuples stay held, each a new object. -/
namespace Enl
open PySem PySem.W PySem.Calls PyProof.Rows PyProof.V PySem.Spec

theorem no_len : typeLookup (.type "enumerate") "__len__" = pure none := am_miss_of_fast (by decide +kernel)
theorem no_hint : typeLookup (.type "enumerate") "__length_hint__" = pure none := am_miss_of_fast (by decide +kernel)

structure Got (its : Array Value) (lo : Addr) (h : Heap) (as : List Addr) : Prop where
  up : as.Pairwise (· < ·)
  ab : ∀ a ∈ as, lo < a
  prs : ∀ (j : Nat) (a : Addr), as[j]? = some a → ∃ (v : Value) (t : Tok), its[j]? = some v ∧ h.get? a = some { cls := .type "tuple", data := .seq #[.int j t, v] }

/-- where the enumerate stands ahead of turn i -/
def At (h : Heap) (e it l S : Addr) (i : Nat) (its : Array Value) : Prop :=
  h.IsListIter it l i ∧ h.IsList l its ∧ ((∃ old, IsEnum h e it i old) ∨ ∃ old T f oT, IsEnumHeld h e it i old T f ∧ h.get? T = some oT ∧ T ≠ e ∧ T ≠ it ∧ T ≠ S)
theorem At.up {h h' : Heap} {e it l S : Addr} {i : Nat} {its : Array Value} (a : At h e it l S i its) (n1 : e ≠ S) (n2 : it ≠ S) (n3 : l ≠ S) (k : ∀ b o, b ≠ S → h.get? b = some o → h'.get? b = some o) : At h' e it l S i its := by
  obtain ⟨a1, a2, a3⟩ := a
  refine ⟨a1.at fun o x => k _ o n2 x, a2.at fun o x => k _ o n3 x, ?_⟩
  rcases a3 with ⟨old, a3⟩ | ⟨old, T, f, oT, a3, a4, r1, r2, r3⟩
  · exact .inl ⟨old, k _ _ n1 a3⟩
  · exact .inr ⟨old, T, f, oT, k _ _ n1 a3, k _ _ r3 a4, r1, r2, r3⟩

section
variable {prog : Program} {w : World} {A : Around} {E : Value → Shared → Prop} {s : Shared}
theorem next_item {e it l S : Addr} {i : Nat} {its : Array Value} {x : Value} {Q : Option Value → Shared → Prop} (st : At s.heap e it l S i its) (hx : its[i]? = some x) (hei : e ≠ it) (hle : l ≠ e) (hli : l ≠ it) (hS : S < s.heap.objs.size)
    (hQ : ∀ h', At h' e it l S (i + 1) its → h'.get? s.heap.objs.size = some { cls := .type "tuple", data := .seq #[.int i s.toks, x] } → h'.objs.size = s.heap.objs.size + 1 →
      (∀ b o, b ≠ e → b ≠ it → s.heap.get? b = some o → h'.get? b = some o) → Q (some (.ref s.heap.objs.size)) { s with heap := h', toks := s.toks + 1 }) : wpAny (model prog w) A (pyNext (.ref e)) Q E s := by
  obtain ⟨hit, hl, he⟩ := st
  have ec : ((i + 1 : Nat) : Int) = (i : Int) + 1 := by omega
  have nit : s.heap.objs.size ≠ it := let ⟨_, x, _⟩ := hit; Nat.ne_of_gt (Heap.lt_size x)
  rcases he with ⟨old, he⟩ | ⟨old, T, f, oT, he, hT, r1, r2, r3⟩
  · refine wpAny_pyNext_enum_item he hit hl hx hei fun h' ho hit' hT hz hk => ?_
    refine hQ h' ⟨hit', hl.at fun o y => hk l o hle hli y, .inr ⟨_, s.heap.objs.size, false, _, (by rw [ec]; exact ho), hT, Nat.ne_of_gt (Heap.lt_size he), nit, Nat.ne_of_gt hS⟩⟩ hT hz hk
  · refine wpAny_pyNext_enum_item_held he hT r1 r2 hit hl hx hei fun h' ho hit' hT' hz hk => ?_
    refine hQ h' ⟨hit', hl.at fun o y => hk l o hle hli y, .inr ⟨old, T, true, oT, (by rw [ec]; exact ho), hk _ _ r1 r2 hT, r1, r2, r3⟩⟩ hT' hz hk
theorem next_end {e it l S : Addr} {its : Array Value} {Q : Option Value → Shared → Prop} (hh : A.handled = none) (st : At s.heap e it l S its.size its)
    (hQ : ∀ h', Heap.ExtBut it s.heap h' → Q none { s with heap := h' }) : wpAny (model prog w) A (pyNext (.ref e)) Q E s := by
  obtain ⟨hit, hl, he⟩ := st
  have hx : its[its.size]? = none := Array.getElem?_eq_none (Nat.le_refl _)
  rcases he with ⟨old, he⟩ | ⟨old, T, f, oT, he, hT, r1, r2, r3⟩
  · exact wpAny_pyNext_enum_end hh he hit hl hx fun h' hk => hQ h' hk
  · exact wpAny_pyNext_enum_end_held hh he hit hl hx fun h' hk => hQ h' hk
end

section
variable {prog : Program} {w : World} {A : Around} {s : Shared} {R : Result → Shared → Prop} {its : Array Value}
theorem turns {S e it l : Addr} (hh : A.handled = none) (hSe : S ≠ e) (hSi : S ≠ it) (hSl : S ≠ l) (hei : e ≠ it) (hle : l ≠ e) (hli : l ≠ it) (hn : its.size ≤ sizeLine) (res : Value) {h₁ : Heap} {lo : Addr} (hlS : S ≤ lo) (hle' : e ≤ lo) (hli' : it ≤ lo)
    (hR : ∀ h' tk acc c as, (∀ b o, b ≠ S → b ≠ e → b ≠ it → h₁.get? b = some o → h'.get? b = some o) → h'.get? S = some { cls := .type "list", dict := none, data := .seq acc c, slots := #[] } → as.length = its.size → Got its lo h' as →
      acc.toList = as.map Value.ref → R (.ok (.ret res)) { s with heap := h', toks := tk }) :
    ∀ (k i : Nat) (h : Heap) (tk c : Nat) (acc : Array Value) (as : List Addr), its.size - i = k → i ≤ its.size → At h e it l S i its → (∀ b o, b ≠ S → b ≠ e → b ≠ it → h₁.get? b = some o → h.get? b = some o) →
      h.get? S = some { cls := .type "list", dict := none, data := .seq acc c, slots := #[] } → acc.toList = as.map Value.ref → as.length = i → Got its lo h as → lo < h.objs.size → (∀ a ∈ as, a < h.objs.size) →
      codeAny (model prog w) A (.builtin "list.extend.loop" ⟨[.ref S, .ref e, res], []⟩) R { s with heap := h, toks := tk } := by
  intro k
  induction k with
  | zero =>
    intro i h tk c acc as hk hi hst hkeep hS hacc hal hG hlo hlt
    obtain rfl : i = its.size := by omega
    refine codeAny_builtin PySem.F.entry_extend_loop ?_; rw [Around.under_plainId PySem.F.plain_extend_loop _]
    show wpAny _ A.in1 (pyNext (.ref e) >>= _) _ _ _
    refine wpAny_bind (next_end (s := { s with heap := h, toks := tk }) (A := A.in1) hh hst fun h' he => ?_)
    refine wpAny_pure (hR h' tk acc c as (fun b o h1 h2 h3 y => he b o h3 (hkeep b o h1 h2 h3 y)) (he S _ hSi hS) hal ⟨hG.up, hG.ab, fun j a hj => ?_⟩ hacc)
    obtain ⟨v, t, e1, e2⟩ := hG.prs j a hj
    exact ⟨v, t, e1, he a _ (Nat.ne_of_gt (Nat.lt_of_le_of_lt hli' (hG.ab a (List.mem_of_getElem? hj)))) e2⟩
  | succ k ih =>
    intro i h tk c acc as hk hi hst hkeep hS hacc hal hG hlo hlt
    have hi' : i < its.size := by omega
    have hsz : acc.size = i := by rw [← Array.length_toList, hacc, List.length_map, hal]
    have hSz : S < h.objs.size := Heap.lt_size hS
    refine codeAny_builtin PySem.F.entry_extend_loop ?_; rw [Around.under_plainId PySem.F.plain_extend_loop _]
    show wpAny _ A.in1 (pyNext (.ref e) >>= _) _ _ _
    refine wpAny_bind (next_item (s := { s with heap := h, toks := tk }) hst (Array.getElem?_eq_getElem hi') hei hle hli hSz fun h' hst' ht hz hkp => ?_)
    dsimp only at ht hz hkp ⊢
    have hS' := hkp S _ hSe hSi hS
    have up : ∀ b o, b ≠ S → h'.get? b = some o → (h'.update S (Obj.mapSeq (·.push (Value.ref h.objs.size)))).get? b = some o := fun b o hb y => (Heap.get?_update_other _ _ (Ne.symm hb)).trans y
    show wpAny _ A.in1 (updateSeq S (·.push (Value.ref h.objs.size)) >>= _) _ _ _
    refine wpAny_bind ?_
    refine wpAny_updateSeq hS' rfl (wpAny_pure ⟨plainId_quiet PySem.F.plain_extend_loop _, ?_⟩) (by rw [hsz]; omega) (by show (acc.push (Value.ref h.objs.size)).size ≤ sizeLine + 1; rw [Array.size_push, hsz]; omega)
    have hT := up _ _ (Nat.ne_of_gt hSz) ht
    have hbig : h.objs.size < (h'.update S (Obj.mapSeq (·.push (Value.ref h.objs.size)))).objs.size := Heap.lt_size hT
    refine ih (i + 1) _ (tk + 1) _ (acc.push (Value.ref h.objs.size)) (as ++ [h.objs.size]) (by omega) hi' (hst'.up (Ne.symm hSe) (Ne.symm hSi) (Ne.symm hSl) up) (fun b o h1 h2 h3 y => up b o h1 (hkp b o h2 h3 (hkeep b o h1 h2 h3 y))) (Heap.get?_update_self _ hS' rfl)
      (by rw [Array.toList_push, hacc, List.map_append]; rfl) (by rw [List.length_append, hal]; rfl) ⟨?_, ?_, ?_⟩ (Nat.lt_trans hlo hbig) ?_
    · refine List.pairwise_append.mpr ⟨hG.up, List.pairwise_singleton _ _, fun a ha b hb => ?_⟩
      rw [List.mem_singleton.mp hb]
      exact hlt a ha
    · intro a ha
      rcases List.mem_append.mp ha with ha | ha
      · exact hG.ab a ha
      · rw [List.mem_singleton.mp ha]
        exact hlo
    · intro j a hj
      by_cases hjl : j < as.length
      · rw [List.getElem?_append_left hjl] at hj
        obtain ⟨v, t, e1, e2⟩ := hG.prs j a hj
        have ga := hG.ab a (List.mem_of_getElem? hj)
        exact ⟨v, t, e1, up a _ (Nat.ne_of_gt (Nat.lt_of_le_of_lt hlS ga)) (hkp a _ (Nat.ne_of_gt (Nat.lt_of_le_of_lt hle' ga)) (Nat.ne_of_gt (Nat.lt_of_le_of_lt hli' ga)) e2)⟩
      · have hjb : j < (as ++ [h.objs.size]).length := (List.getElem?_eq_some_iff.mp hj).1
        rw [List.length_append, List.length_singleton] at hjb
        obtain rfl : j = i := by omega
        rw [List.getElem?_append_right (by omega), show j - as.length = 0 from by omega] at hj
        obtain rfl : h.objs.size = a := Option.some.inj hj
        exact ⟨its[j], tk, Array.getElem?_eq_getElem hi', hT⟩
    · intro a ha
      rcases List.mem_append.mp ha with ha | ha
      · exact Nat.lt_trans (hlt a ha) hbig
      · rw [List.mem_singleton.mp ha]
        exact hbig
end
section
variable {prog : Program} {w : World} {A : Around} {E : Value → Shared → Prop} {s : Shared} {its : Array Value} {e it l : Addr}
theorem hint_none (he : s.TypeIs (.ref e) "enumerate") {Q : Bool → Shared → Prop} (h : Q true s) : wpAny (model prog w) A (Builtin.List.listLengthHint (.ref e)) Q E s := by
  unfold Builtin.List.listLengthHint
  refine wpAny_bind (wpAny_specialOf he no_len ?_)
  show wpAny _ A (specialOf (Value.ref e) (Str.ofString "__length_hint__") >>= _) _ _ _
  refine wpAny_bind (wpAny_specialOf he no_hint ?_)
  exact wpAny_pure h
/-- list(e), e an enumerate over a list that stands at its begin -/
theorem call_list {Q : Value → Shared → Prop} (hh : A.handled = none) (he : IsEnum s.heap e it 0 .none) (hit : s.heap.IsListIter it l 0) (hl : s.heap.IsList l its) (hei : e ≠ it) (hle : l ≠ e) (hli : l ≠ it) (hn : its.size ≤ sizeLine)
    (hQ : ∀ h' tk acc c as, (∀ b o, b ≠ e → b ≠ it → s.heap.get? b = some o → h'.get? b = some o) → h'.get? s.heap.objs.size = some { cls := .type "list", dict := none, data := .seq acc c, slots := #[] } → as.length = its.size → Got its s.heap.objs.size h' as →
      acc.toList = as.map Value.ref → Q (.ref s.heap.objs.size) { s with heap := h', toks := tk }) :
    wpAny (model prog w) A (call (.type "list") [.ref e]) Q E s := by
  refine callType_codes (Q₁ := fun obj s₁ => obj = .ref s.heap.objs.size ∧ s₁ = { s with heap := s.heap.push { cls := .type "list", data := .seq #[] } }) PySem.F.called_list (PySem.F.typeCall_list_1 _) PySem.F.entry_list_init (code_list_new _ ⟨rfl, rfl⟩) fun obj s₁ h₁ => ?_
  obtain ⟨rfl, rfl⟩ := h₁
  have hS : (s.heap.push { cls := .type "list", data := .seq #[] }).get? s.heap.objs.size = some { cls := .type "list", data := .seq #[] } := Heap.get?_push_size _ rfl
  have le : e < s.heap.objs.size := Heap.lt_size he
  have li : it < s.heap.objs.size := let ⟨_, x, _⟩ := hit; Heap.lt_size x
  have ll : l < s.heap.objs.size := let ⟨_, x, _⟩ := hl; Heap.lt_size x
  generalize hg : s.heap.push { cls := .type "list", data := .seq #[] } = h0 at hS
  have k0 : ∀ b o, s.heap.get? b = some o → h0.get? b = some o := fun b o x => by rw [← hg]; exact Heap.get?_push_of_some _ x
  have z0 : h0.objs.size = s.heap.objs.size + 1 := by rw [← hg, Heap.size_push]
  generalize hp : s.heap.objs.size = S at hS le li ll z0 hQ
  have a0 : At h0 e it l S 0 its := ⟨hit.at fun o x => k0 _ o x, hl.at fun o x => k0 _ o x, .inl ⟨.none, k0 _ _ he⟩⟩
  refine ⟨⟨_, hS, rfl⟩, PySem.F.args_list_init_2 _ _, ?_⟩
  show wpAny _ _ (do let old ← Builtin.List.listItems (.ref S); Builtin.List.listUpdate (.ref S) (fun _ => #[]); letGo old.toList.reverse; Builtin.List.listExtendWith (.ref S) (.ref e) .none) _ _ _
  refine wpAny_bind ?_
  unfold Builtin.List.listItems
  refine wpAny_bind (wpAny_seqItems hS rfl (wpAny_pure ?_))
  show wpAny _ _ (updateSeq S (fun _ => #[]) >>= fun _ => letGo (#[] : Array Value).toList.reverse >>= fun _ => Builtin.List.listExtendWith (.ref S) (.ref e) .none) _ _ _
  refine wpAny_bind (wpAny_updateSeq hS rfl ?_)
  have hS2 := Heap.get?_update_self (Obj.mapSeq (fun _ => (#[] : Array Value))) hS rfl
  have k2 : ∀ b o, b ≠ S → h0.get? b = some o → (h0.update S (Obj.mapSeq (fun _ => (#[] : Array Value)))).get? b = some o := fun b o hb x => (Heap.get?_update_other _ _ (Ne.symm hb)).trans x
  have a2 := a0.up (Nat.ne_of_lt le) (Nat.ne_of_lt li) (Nat.ne_of_lt ll) k2
  generalize h0.update S (Obj.mapSeq (fun _ => (#[] : Array Value))) = h2 at hS2 k2 a2
  refine wpAny_bind (wpAny_letGo ?_)
  have T2 : Shared.TypeIs { s with heap := h2 } (.ref e) "enumerate" := by
    rcases a2.2.2 with ⟨old, x⟩ | ⟨old, T, f, oT, x, _⟩
    · exact ⟨_, x, rfl⟩
    · exact ⟨_, x, rfl⟩
  unfold Builtin.List.listExtendWith
  refine wpAny_bind (wpAny_typeOf (T := "enumerate") T2 ?_)
  have g1 : Builtin.List.listSameRef (.ref S) (.ref e) = false := by simp [Builtin.List.listSameRef, Nat.ne_of_gt le]
  have g2 : (Value.type "enumerate" == Value.type "list") = false := by decide
  have g3 : (Value.type "enumerate" == Value.type "tuple") = false := by decide
  simp only [g1, g2, g3, Bool.or_false, Bool.false_eq_true, if_false]
  have e2 : ∃ old, IsEnum h2 e it 0 old := ⟨.none, k2 _ _ (Nat.ne_of_lt le) (k0 _ _ he)⟩
  obtain ⟨old2, e2⟩ := e2
  refine wpAny_bind (wpAny_pyIter_enum (s := { s with heap := h2 }) e2 ?_)
  refine wpAny_bind (wpAny_holding (hint_none T2 ?_))
  have key : ∀ (h : Heap) (tk c : Nat), (∀ b o, b ≠ S → h2.get? b = some o → h.get? b = some o) → h.get? S = some { cls := .type "list", data := .seq #[] c } →
      codeAny (model prog w) A.in1 (.builtin "list.extend.loop" ⟨[.ref S, .ref e, .none], []⟩) (wants (fun r s2 => r = Value.none ∧ Q (Value.ref S) s2) E) { s with heap := h, toks := tk } := by
    intro h tk c kh hSh
    refine turns (A := A.in1) (s := s) (h₁ := s.heap) (lo := S) hh (Nat.ne_of_gt le) (Nat.ne_of_gt li) (Nat.ne_of_gt ll) hei hle hli hn .none (Nat.le_refl _) (Nat.le_of_lt le) (Nat.le_of_lt li)
      (fun h' tk' acc c' as k3 k4 k5 k6 k7 => ⟨rfl, ?_⟩) its.size 0 h tk c #[] [] (Nat.sub_zero _) (Nat.zero_le _) (a2.up (Nat.ne_of_lt le) (Nat.ne_of_lt li) (Nat.ne_of_lt ll) kh)
      (fun b o h1 _ _ x => kh b o h1 (k2 b o h1 (k0 b o x))) hSh rfl rfl ⟨List.Pairwise.nil, (fun _ ha => nomatch ha), (fun j a hj => by simp at hj)⟩ ?_ (fun _ ha => nomatch ha)
    · exact hQ h' tk' acc c' as (fun b o h1 h2 x => k3 b o (by rw [← hp]; exact Nat.ne_of_lt (Heap.lt_size x)) h1 h2 x) k4 k5 k6 k7
    · exact Heap.lt_size hSh
  refine wpAny_ite_split (fun _ => ?_) (fun _ => wpAny_pure ⟨plainId_quiet PySem.F.plain_extend_loop _, key h2 _ _ (fun b o _ x => x) hS2⟩)
  refine wpAny_bind (wpAny_rule ?_)
  refine wpAny_bind ?_
  show wpAny _ _ (updateSeq S (·.push .none) >>= fun _ => updateSeq S (·.pop)) _ _ _
  refine wpAny_bind (wpAny_updateSeq hS2 rfl ?_)
  have hS3 := Heap.get?_update_self (Obj.mapSeq (·.push Value.none)) hS2 rfl
  refine wpAny_updateSeq (hz := by seq_fits) hS3 rfl ?_
  have hS4 := Heap.get?_update_self (Obj.mapSeq (·.pop)) hS3 rfl
  refine wpAny_pure ⟨plainId_quiet PySem.F.plain_extend_loop _, key _ _ _ (fun b o hb x => ?_) hS4⟩
  exact (Heap.get?_update_other _ _ (Ne.symm hb)).trans ((Heap.get?_update_other _ _ (Ne.symm hb)).trans x)
end
end Enl

namespace Enl
open PySem PySem.W PyProof.Rows L2
section
variable {X : Cx} {pins : List (Addr × Obj)} {σ : L2.St} {H H' : Hp} {s : Shared} {h' : Heap} {tk : Nat}
/-- many new objects tracked at once -/
theorem lay_many (I : Inv X pins σ H s) (hk : ∀ b o, s.heap.get? b = some o → h'.get? b = some o) (up : ∀ b u, H b = some u → H' b = some u) (off : ∀ b, b < s.heap.objs.size → H b = none → H' b = none)
    (new : ∀ b u, H' b = some u → H b = some u ∨ ObjOk X.prog X.w H' h' b u) : Inv X pins σ H' { s with heap := h', toks := tk } := by
  refine I.call' (ch := []) rfl ⟨fun b o q _ _ _ => hk b o q, fun b o q _ _ _ => ⟨o.slots, hk b o q⟩, fun b o q n _ => off b (Heap.lt_size q) n, fun b o q _ => ⟨o, hk b o q⟩, fun b xs q => up b _ q, fun b o u q => up b _ q, fun b ps q => ⟨#[], by rw [up b _ q]; simp⟩⟩ (fun b u q => ?_) I.bare (fun b z => by simp at z)
  rcases new b u q with q1 | q1
  · exact (I.hok b u q1).stay (fun d v _ y => hk d v y) (fun d y => up d _ y) (fun d xs y => up d _ y)
  · exact q1
end
/-- the pairs tracked at their addresses, numbered from n -/
def putE : Hp → Nat → List Addr → List V → Hp
  | H, n, a :: as, x :: xs => putE (upd H a (.tup [.int (n : Int), x])) (n + 1) as xs
  | H, _, _, _ => H
theorem putE_off {b : Addr} : ∀ (as : List Addr) (xs : List V) (n : Nat) (H : Hp), b ∉ as → putE H n as xs b = H b
  | [], _, _, _, _ => rfl
  | _ :: _, [], _, _, _ => rfl
  | a :: as, x :: xs, n, H, h => by
    show putE (upd H a (.tup [.int (n : Int), x])) (n + 1) as xs b = H b
    rw [putE_off as xs (n + 1) _ (fun z => h (List.mem_cons_of_mem _ z)), upd_ne (fun z => h (by rw [z]; exact List.mem_cons_self))]
theorem putE_at : ∀ (as : List Addr) (xs : List V) (n : Nat) (H : Hp), as.Nodup → ∀ (j : Nat) (a : Addr) (x : V), as[j]? = some a → xs[j]? = some x → putE H n as xs a = some (.tup [.int ((n + j : Nat) : Int), x])
  | [], _, _, _, _, j, a, x, h, _ => by simp at h
  | _ :: _, [], _, _, _, j, a, x, _, h => by simp at h
  | b :: as, y :: xs, n, H, nd, 0, a, x, h1, h2 => by
    obtain rfl : b = a := Option.some.inj h1
    obtain rfl : y = x := Option.some.inj h2
    show putE (upd H b (.tup [.int (n : Int), y])) (n + 1) as xs b = _
    rw [putE_off as xs (n + 1) _ (List.nodup_cons.mp nd).1, upd_same]
    rfl
  | b :: as, y :: xs, n, H, nd, j + 1, a, x, h1, h2 => by
    show putE (upd H b (.tup [.int (n : Int), y])) (n + 1) as xs a = _
    rw [putE_at as xs (n + 1) _ (List.nodup_cons.mp nd).2 j a x h1 h2]
    rw [show n + 1 + j = n + (j + 1) from by omega]
theorem vals_at : ∀ {xs : List V} {us : List Value}, Vals xs us → ∀ {i : Nat} {u : Value}, us[i]? = some u → ∃ x, xs[i]? = some x ∧ RelV x u
  | _, _, .nil, i, u, h => by simp at h
  | _, _, .cons r t, 0, u, h => by
    obtain rfl := Option.some.inj h
    exact ⟨_, rfl, r⟩
  | _, _, .cons r t, i + 1, u, h => vals_at t (i := i) (u := u) h
theorem refs_vals : ∀ as : List Addr, Vals (as.map V.ref) (as.map Value.ref)
  | [] => .nil
  | _ :: as => .cons rfl (refs_vals as)
/-- list(enumerate(xs)): a new list of new pairs -/
def rEnumL (K : PySem.W.Frag) : V → Hp → VK → Prop := fun x H Q => ∃ (a : Addr) (xs : List V), x = .ref a ∧ SqL K H a xs ∧ xs.length + 1 ≤ sizeLine ∧
  ∀ (H' : Hp) (p : Addr) (ts : List Addr), Same H H' → H p = none → (∀ t ∈ ts, H t = none) → H' p = some (.lst (ts.map V.ref)) → ts.length = xs.length →
    (∀ (j : Nat) (t : Addr) (y : V), ts[j]? = some t → xs[j]? = some y → H' t = some (.tup [.int (j : Int), y])) → Q (.ref p) H'
def tEnumL (K : PySem.W.Frag) (te : TE) : TE := fun σ H Q => te σ H fun x H1 => rEnumL K x H1 Q
section
variable {X : Cx} {e : Expr} {te : TE} {p p2 pos pos2 : Pos}
theorem pe_listEnum (hm : X.mg "list" = none) (hm2 : X.mg "enumerate" = none) (he : PE X e te) (hc : X.calm = true := by rfl) (hg : Gl X "list" := by rfl) (hg2 : Gl X "enumerate" := by rfl)
    (hs2 : starEach [e] X.env = [(false, eval e X.env)] := by rfl)
    (hs : starEach [.Call (.Name "enumerate" p2) [e] [] pos2] X.env = (false, eval (.Call (.Name "enumerate" p2) [e] [] pos2) X.env) :: starEach [] X.env := by rfl) :
    PE X (.Call (.Name "list" p) [.Call (.Name "enumerate" p2) [e] [] pos2] [] pos) (tEnumL X.K te) := by
  refine ⟨fun pins s σ H Q I hq => ?_⟩
  refine wpAny_Call_Name_kw (ld_blt I hg hm (by decide +kernel : bootBuiltins "list" = some (.type "list")) ?_)
  refine PyProof.Rows.callWith_type1 ?_ hs rfl
  rw [hs]
  show wpAny _ _ (spliced ((false, eval (.Call (.Name "enumerate" p2) [e] [] pos2) X.env) :: backTo pos (starEach [] X.env))) _ _ s
  refine Calls.spliced_cons ?_
  refine Call_ (ld_blt I hg2 hm2 boot_enumerate (PyProof.Rows.callWith_type1 ?_ hs2 rfl))
  rw [hs2]
  show wpAny _ _ (spliced ((false, eval e X.env) :: backTo pos2 (starEach [] X.env))) _ _ s
  refine Calls.spliced_cons (thn (he.run pins s σ H _ I hq) fun v s1 ⟨x, H1, I1, r1, a, xs, ex, hq1, hz1, q⟩ => ?_)
  subst ex
  obtain rfl : v = Value.ref a := r1
  refine Calls.spliced_nil ?_
  obtain ⟨its, rv, pl, hz⟩ := I1.list hq1
  refine call_enumerate_list pl.isList fun h' he' hit hsz hk => ?_
  refine Calls.spliced_nil ?_
  have la : a < s1.heap.objs.size := let ⟨_, z, _⟩ := pl.isList; Heap.lt_size z
  have hlen : its.length = xs.length := rv.length.symm
  refine Enl.call_list (s := { s1 with heap := h' }) (I1.ok.hd hc) he' hit (pl.isList.at fun o z => hk _ o z) (Nat.succ_ne_self _) (Nat.ne_of_lt (Nat.lt_succ_of_lt la)) (Nat.ne_of_lt la) (by rw [List.size_toArray, hlen]; exact hz) fun h2 tk acc c as k1 k2 k3 k4 k5 => ?_
  dsimp only at k1 k2 k3 k4 k5 ⊢
  have keep : ∀ b o, s1.heap.get? b = some o → h2.get? b = some o := fun b o z => k1 b o (Nat.ne_of_lt (Nat.lt_succ_of_lt (Heap.lt_size z))) (Nat.ne_of_lt (Heap.lt_size z)) (hk b o z)
  have big : s1.heap.objs.size ≤ h'.objs.size := by rw [hsz]; omega
  have nd : as.Nodup := List.Pairwise.imp (fun {a b} (z : a < b) => Nat.ne_of_lt z) k4.up
  have nS : h'.objs.size ∉ as := fun z => Nat.lt_irrefl _ (k4.ab _ z)
  have fr : ∀ b, s1.heap.objs.size ≤ b → H1 b = none := fun b z => I1.hok.fresh z
  have frA : ∀ t ∈ as, H1 t = none := fun t z => fr t (Nat.le_trans big (Nat.le_of_lt (k4.ab t z)))
  have lenA : as.length = xs.length := by rw [k3, List.size_toArray, hlen]
  generalize hH2 : putE (upd H1 h'.objs.size (.lst (as.map V.ref))) 0 as xs = H2
  have eS : H2 h'.objs.size = some (.lst (as.map V.ref)) := by rw [← hH2, putE_off as xs 0 _ nS, upd_same]
  have eT : ∀ (j : Nat) (t : Addr) (y : V), as[j]? = some t → xs[j]? = some y → H2 t = some (.tup [.int (j : Int), y]) := fun j t y z1 z2 => by
    have z3 := putE_at as xs 0 (upd H1 h'.objs.size (.lst (as.map V.ref))) nd j t y z1 z2
    rw [Nat.zero_add] at z3
    rw [← hH2]
    exact z3
  have eO : ∀ b, b ≠ h'.objs.size → b ∉ as → H2 b = H1 b := fun b z1 z2 => by rw [← hH2, putE_off as xs 0 _ z2, upd_ne z1]
  have up : ∀ b u, H1 b = some u → H2 b = some u := fun b u z => by
    rw [eO b (fun y => by rw [y, fr _ big] at z; cases z) (fun y => by rw [frA b y] at z; cases z)]
    exact z
  have J : Inv X pins σ H2 { s1 with heap := h2, toks := tk } := by
    refine lay_many I1 keep up (fun b z n => ?_) fun b u z => ?_
    · rw [eO b (fun y => absurd z (Nat.not_lt.mpr (by rw [y]; exact big))) (fun y => absurd z (Nat.not_lt.mpr (Nat.le_trans big (Nat.le_of_lt (k4.ab b y)))))]
      exact n
    · by_cases hb : b ∈ as
      · obtain ⟨j, hj⟩ := List.mem_iff_getElem?.mp hb
        obtain ⟨v, t, w1, w2⟩ := k4.prs j b hj
        rw [List.getElem?_toArray] at w1
        obtain ⟨x, w3, w4⟩ := vals_at rv w1
        have w5 := eT j b x hj w3
        rw [w5] at z
        cases z
        exact .inr ⟨by show 2 ≤ sizeLine; decide, [.int j t, v], .cons ⟨t, rfl⟩ (.cons w4 .nil), ⟨_, w2, rfl, _, rfl⟩⟩
      · by_cases hb2 : b = h'.objs.size
        · subst hb2
          rw [eS] at z
          cases z
          refine .inr ⟨by rw [List.length_map, lenA]; omega, acc.toList, c, by rw [k5]; exact refs_vals as, ?_⟩
          rw [Array.toArray_toList]
          exact k2
        · rw [eO b hb2 hb] at z
          exact .inl z
  exact ⟨.ref _, H2, J, rfl, q H2 _ as up (fr _ big) frA eS lenA eT⟩
end
end Enl

namespace Sp
open PySem L2
/-! ### a def of the text that keeps its promise, by its name -/
structure Cal (P : Program) (w : World) (K : PySem.W.Frag) (mg : Str → Option Value) (base : Heap) (k : Nat) (x : Str) (ps : List Str) (sp : Sp) : Prop where
  ex : ∃ (f : Addr) (fd : FuncData), FnOk P w K mg base CX0 k f fd ps sp ∧ mg x = some (.ref f) ∧ PySem.W.keepIn K (.ref f) = true ∧ Binds K fd ps []
theorem pe_own {X : Cx} {k : Nat} {x : Str} {ps : List Str} {sp : Sp} {e : Expr} {es : List Expr} {t : TA} {p pos : Pos} (c : Cal X.prog X.w X.K X.mg X.base k x ps sp) (hr : Room k X.A) (hg : Gl X x) (ha : PA X (e :: es) t)
    (hdb : (x == ("__debug__" : Str)) = false := by decide) (he : starEach (e :: es) X.env = (false, eval e X.env) :: starEach es X.env := by rfl) (hpl : (backTo pos (starEach es X.env)).any (·.1) = false := by rfl) :
    PE X (.Call (.Name x p) (e :: es) [] pos) (tCall sp [] E0 t) := by
  obtain ⟨f, fd, F, m, kp, b⟩ := c.ex
  exact pe_call F hr hg m kp b .nil pass0 ha hdb he hpl
theorem Cal.imp {P : Program} {w : World} {K : PySem.W.Frag} {mg : Str → Option Value} {base : Heap} {k : Nat} {x : Str} {ps : List Str} {sp sp' : L2.Sp} (c : Cal P w K mg base k x ps sp) (h : ∀ vs H Q E, sp' vs H Q E → sp vs H Q E) : Cal P w K mg base k x ps sp' := by
  obtain ⟨f, fd, F, m, kp, b⟩ := c.ex
  exact ⟨f, fd, F.imp h, m, kp, b⟩
/-- the built-ins' names are not the module's -/
structure Bt (mg : Str → Option Value) : Prop where
  len_ : mg "len" = none
  list_ : mg "list" = none
  enumerate_ : mg "enumerate" = none
  int_ : mg "int" = none
  bool_ : mg "bool" = none
  sum_ : mg "sum" = none
  sorted_ : mg "sorted" = none
  min_ : mg "min" = none
  max_ : mg "max" = none
  range_ : mg "range" = none
  isinstance_ : mg "isinstance" = none
  repr_ : mg "repr" = none
  tuple_ : mg "tuple" = none
  dict_ : mg "dict" = none
  abs_ : mg "abs" = none
  str_ : mg "str" = none
/-! ### heaps: all stays but the hand at a -/
/-- the hand: two whole numbers -/
def HandAt (H : Hp) (a : Addr) : Prop := ∃ x y : Int, H a = some (.lst [.int x, .int y]) ∧ 0 ≤ x ∧ 0 ≤ y ∧ y < 2147483587
structure Ext (a : Addr) (H H' : Hp) : Prop where
  keep : ∀ b o, H b = some o → b ≠ a → H' b = some o
  hand : HandAt H a → HandAt H' a
theorem Ext.refl {a : Addr} {H : Hp} : Ext a H H := ⟨fun _ _ h _ => h, fun h => h⟩
theorem Ext.trans {a : Addr} {H H1 H2 : Hp} (e : Ext a H H1) (f : Ext a H1 H2) : Ext a H H2 := ⟨fun b o h n => f.keep b o (e.keep b o h n) n, fun h => f.hand (e.hand h)⟩
theorem HandAt.same {a : Addr} {H H' : Hp} (s : Same H H') (h : HandAt H a) : HandAt H' a := by
  obtain ⟨x, y, e, r⟩ := h
  exact ⟨x, y, s _ _ e, r⟩
theorem Ext.same {a : Addr} {H H' : Hp} (s : Same H H') : Ext a H H' := ⟨fun b o h _ => s b o h, fun h => h.same s⟩
theorem same_new {H : Hp} {p : Addr} {o : HO} (h : H p = none) : Same H (upd H p o) := fun b x e => by
  rw [upd_ne (ne_of_none e h)]
  exact e
theorem Ext.new {a : Addr} {H : Hp} {p : Addr} {o : HO} (h : H p = none) : Ext a H (upd H p o) := .same (same_new h)
theorem HandAt.ne {a p : Addr} {H : Hp} (h : HandAt H a) (n : H p = none) : p ≠ a := by
  obtain ⟨x, y, e, r⟩ := h
  exact fun z => by rw [z, e] at n; cases n
theorem Ext.made {a : Addr} {H H' : Hp} (e : Ext a H H') (n : H a = none) : Same H H' := fun b o h => e.keep b o h (fun z => by rw [z, n] at h; cases h)
theorem Ext.free {a b : Addr} {H H' : Hp} (e : Ext a H H') (n : b ≠ a) (h : H' b = none) : H b = none := by
  cases q : H b with
  | none => rfl
  | some o => rw [e.keep b o q n] at h; cases h
/-- a list of whole numbers that stands still -/
def Nums (H : Hp) (a p : Addr) (ns : List Int) : Prop := H p = some (.lst (ns.map V.int)) ∧ p ≠ a
theorem Nums.up {H H' : Hp} {a p : Addr} {ns : List Int} (n : Nums H a p ns) (e : Ext a H H') : Nums H' a p ns := ⟨e.keep _ _ n.1 n.2, n.2⟩
theorem Nums.sq {K : PySem.W.Frag} {H : Hp} {a p : Addr} {ns : List Int} (n : Nums H a p ns) : SqL K H p (ns.map V.int) := .inl (.inl n.1)
theorem seqExt {K : PySem.W.Frag} {H H' : Hp} {a p : Addr} {xs : List V} (e : Ext a H H') (n : p ≠ a) (h : SqL K H p xs) : SqL K H' p xs := by
  rcases h with (h | ⟨o, h⟩) | h
  · exact .inl (.inl (e.keep _ _ h n))
  · exact .inl (.inr ⟨o, e.keep _ _ h n⟩)
  · exact .inr h
/-! ### numbers -/
theorem wide30 {n : Int} (h0 : 0 < n) (h : n < 2 ^ 62) : CDivW (0 : Int) n := wide_div (b := 62) h0 (by omega) (by decide) (by decide)
theorem divW {i n : Int} (h0 : 0 < n) (h : n < 2 ^ 62) : CDivW i n := wide_div (b := 62) h0 (by omega) (by decide) (by decide)
theorem mulW {i j : Int} (h1 : -(2 ^ 200) < i) (h2 : i < 2 ^ 200) (h3 : -(2 ^ 200) < j) (h4 : j < 2 ^ 200) : CMulW i j := wide_mul (a := 200) (b := 200) (by omega) (by omega) (by decide) (by decide) (by decide)
theorem small {n : Nat} (h : n ≤ 100000) : n ≤ sizeLine := Nat.le_trans h (by decide)
theorem smallLt {n : Nat} (h : n ≤ 100000) : n < sizeLine := Nat.lt_of_le_of_lt h (by decide)
theorem at0 {α : Type} {x : α} {r : List α} : atI (x :: r) 0 = some x := atI_nat (j := 0) rfl
theorem at1 {α : Type} {x y : α} {r : List α} : atI (x :: y :: r) 1 = some y := atI_nat (j := 1) rfl
/-! ### the promises of the law's own small defs -/
def spHand : L2.Sp := fun vs H Q _ => ∃ c k : Int, vs = [.int c, .int k] ∧ 0 ≤ k ∧ k ≤ 1000 ∧ ∀ p x y, H p = none → 0 ≤ x → 0 ≤ y → y < 2147483587 → Q (.ref p) (upd H p (.lst [.int x, .int y]))
def spDraw : L2.Sp := fun vs H Q _ => ∃ (a : Addr) (n : Int), vs = [.ref a, .int n] ∧ HandAt H a ∧ 0 < n ∧ n < 2 ^ 62 ∧ ∀ r H', 0 ≤ r → r < n → HandAt H' a → (∀ b, b ≠ a → H' b = H b) → Q (.int r) H'
theorem drawn {a : Addr} {H H' : Hp} (h : HandAt H' a) (k : ∀ b, b ≠ a → H' b = H b) : Ext a H H' := ⟨fun b o e n => by rw [k b n]; exact e, fun _ => h⟩
end Sp

namespace Sp
open PySem L2
/-! ### lists of whole numbers as data -/
abbrev di (ns : List Int) : PyData := .list (ns.map PyData.int)
theorem dpAll_ints {K : PySem.W.Frag} {H : Hp} : ∀ ns : List Int, DpAll K H (ns.map V.int) (ns.map PyData.int)
  | [] => .nil
  | n :: ns => .cons (.int n) (dpAll_ints ns)
theorem dp_ints {K : PySem.W.Frag} {H : Hp} {p : Addr} {ns : List Int} (h : SqL K H p (ns.map V.int)) : Dp K H (.ref p) (di ns) := .lst h (dpAll_ints ns)
theorem lay_ints : ∀ ns : List Int, PyData.canLayAll0 (ns.map PyData.int) = true
  | [] => by rw [List.map_nil, PyData.canLayAll0]
  | n :: ns => by rw [List.map_cons, PyData.canLayAll0, lay_ints ns, PyData.canLay0]; rfl
theorem dep_ints : ∀ ns : List Int, PyData.depthAll (ns.map PyData.int) = 0
  | [] => by rw [List.map_nil, PyData.depthAll]
  | n :: ns => by rw [List.map_cons, PyData.depthAll, dep_ints ns, PyData.depth]; rfl
theorem shaped_ints (ns : List Int) : SeqAt.shaped (di ns) = true := by
  unfold SeqAt.shaped
  rw [PyData.canLay0, lay_ints, PyData.depth, dep_ints]
  rfl
theorem eqvAll_ints : ∀ ns ms : List Int, PyData.eqvAll (ns.map PyData.int) (ms.map PyData.int) = decide (ns = ms)
  | [], [] => by rw [List.map_nil, PyData.eqvAll]; rfl
  | [], _ :: _ => by rw [List.map_nil, List.map_cons, PyData.eqvAll]; rfl
  | _ :: _, [] => by rw [List.map_nil, List.map_cons, PyData.eqvAll]; rfl
  | n :: ns, m :: ms => by
    rw [List.map_cons, List.map_cons, PyData.eqvAll, eqvAll_ints ns ms, PyData.eqv]
    by_cases h : n = m
    · by_cases h2 : ns = ms
      · subst h; subst h2; simp
      · simp [h, h2]
    · simp [h]
theorem eqv_ints (ns ms : List Int) : PyData.eqv (di ns) (di ms) = decide (ns = ms) := by rw [PyData.eqv, eqvAll_ints]
theorem eqvAll_same {xs : List PyData} (h : ∀ x ∈ xs, PyData.eqv x x = true) : PyData.eqvAll xs xs = true := by
  induction xs with
  | nil => rw [PyData.eqvAll]
  | cons x xs ih => rw [PyData.eqvAll, h x List.mem_cons_self, ih fun y hy => h y (List.mem_cons_of_mem _ hy)]; rfl
theorem SqL.new {K : PySem.W.Frag} {H : Hp} {p : Addr} {xs : List V} (h : H p = some (.lst xs)) : SqL K H p xs := .inl (.inl h)
theorem rep_one {x : V} (k : Nat) : (List.replicate k [x]).flatten = List.replicate k x := by
  induction k with
  | zero => rfl
  | succ k ih => rw [List.replicate_succ, List.flatten_cons, ih]; rfl
theorem rep_int (x : Int) (k : Nat) : List.replicate k (V.int x) = (List.replicate k x).map V.int := by rw [List.map_replicate]
theorem cut_len (xs : List V) (lo hi : Option Int) : (cutV xs lo hi).length ≤ xs.length := cutV_length xs lo hi
theorem cut_map {ns : List Int} (lo hi : Option Int) : ∃ ms : List Int, cutV (ns.map V.int) lo hi = ms.map V.int ∧ ms.length ≤ ns.length ∧ ∀ m ∈ ms, m ∈ ns := by
  refine ⟨(ns.drop (HT.sIx ns.length 0 lo)).take (HT.sIx ns.length ns.length hi - HT.sIx ns.length 0 lo), ?_, ?_, ?_⟩
  · unfold cutV
    rw [List.length_map, List.map_take, List.map_drop]
  · exact Nat.le_trans (List.length_take_le' _ _) (by rw [List.length_drop]; omega)
  · intro m hm
    exact List.mem_of_mem_drop (List.mem_of_mem_take hm)
theorem int_at {ns : List Int} {i : Nat} {x : V} (h : (ns.map V.int)[i]? = some x) : ∃ n, ns[i]? = some n ∧ x = .int n := by
  rw [List.getElem?_map] at h
  cases e : ns[i]? with
  | none => rw [e] at h; cases h
  | some n => rw [e] at h; exact ⟨n, rfl, (Option.some.inj h).symm⟩
theorem ref_at {ts : List Addr} {i : Nat} {x : V} (h : (ts.map V.ref)[i]? = some x) : ∃ t, ts[i]? = some t ∧ x = .ref t := by
  rw [List.getElem?_map] at h
  cases e : ts[i]? with
  | none => rw [e] at h; cases h
  | some n => rw [e] at h; exact ⟨n, rfl, (Option.some.inj h).symm⟩
theorem int_mem {ns : List Int} {i : Nat} {n : Int} (h : ns[i]? = some n) : n ∈ ns := List.mem_of_getElem? h
/-- the item at a place of a written list, the place drawn -/
theorem at_draw {α : Type} {xs : List α} {r : Int} (h0 : 0 ≤ r) (h1 : r < xs.length) : ∃ x, atI xs r = some x ∧ x ∈ xs := by
  obtain ⟨j, rfl⟩ : ∃ j : Nat, r = (j : Int) := ⟨r.toNat, by omega⟩
  have hj : j < xs.length := by omega
  exact ⟨xs[j], atI_nat (List.getElem?_eq_getElem hj), List.getElem_mem hj⟩
/-! ### the promises -/
def spCells (K : PySem.W.Frag) : L2.Sp := fun vs H Q _ => ∃ (s : Addr) (m : Nat) (ns : List Int), vs = [.ref s, .int m] ∧ SqL K H s (ns.map V.int) ∧ ns.length ≤ 63 ∧ m ≤ 63 ∧
  ∀ (H' : Hp) (p : Addr) (ts : List Addr) (cs : List Int), Same H H' → H p = none → H' p = some (.lst (ts.map V.ref)) → ts.length = cs.length → cs.length ≤ 64 →
    (∀ (j : Nat) (t : Addr) (c : Int), ts[j]? = some t → cs[j]? = some c → H' t = some (.tup [.int (j : Int), .int c])) → Q (.ref p) H'
def spGreat (K : PySem.W.Frag) : L2.Sp := fun vs H Q _ => ∃ (s : Addr) (ns : List Int), vs = [.ref s] ∧ SqL K H s (ns.map V.int) ∧ ∀ b, Q (.bl b) H
/-- sorted, none beyond 10 ** 15 -/
def Fine (ns : List Int) : Prop := ns.Pairwise (· ≤ ·) ∧ ∀ n ∈ ns, -1000000000000000 ≤ n ∧ n ≤ 1000000000000000
def spRow : L2.Sp := fun vs H Q _ => ∃ (a : Addr) (lo hi : Nat), vs = [.ref a, .int (lo : Int), .int (hi : Int)] ∧ HandAt H a ∧ lo ≤ hi ∧ hi ≤ 300 ∧
  ∀ (p : Addr) (ns : List Int) (H' : Hp), Ext a H H' → H p = none → H' p = some (.lst (ns.map V.int)) → lo ≤ ns.length → ns.length ≤ hi → Fine ns → Q (.ref p) H'
def spWhole : L2.Sp := fun vs H Q _ => ∃ x y : Int, vs = [.int x, .int y] ∧ Q (.bl (decide (x = y))) H
end Sp
namespace Sp
open PySem L2
/-! ### the numbers of a row below one -/
def cntB (ns : List Int) (n : Int) : Nat := ns.countP fun x => decide (x < n)
def spBelow (K : PySem.W.Frag) : L2.Sp := fun vs H Q _ => ∃ (p : Addr) (ns : List Int) (n : Int), vs = [.ref p, .int n] ∧ SqL K H p (ns.map V.int) ∧ ns.Pairwise (· ≤ ·) ∧ Q (.int (cntB ns n : Nat)) H
theorem cntB_le (ns : List Int) (n : Int) : cntB ns n ≤ ns.length := List.countP_le_length
/-- what stands ahead of the count is below, what stands behind is not -/
theorem cntB_lt : ∀ {ns : List Int} {n : Int}, ns.Pairwise (· ≤ ·) → ∀ {i : Nat} {x : Int}, ns[i]? = some x → (x < n ↔ i < cntB ns n)
  | [], n, _, i, x, h => by simp at h
  | y :: ns, n, hp, i, x, h => by
    have hp' := List.pairwise_cons.mp hp
    unfold cntB
    rw [List.countP_cons]
    by_cases hy : y < n
    · rw [if_pos (decide_eq_true hy)]
      cases i with
      | zero =>
        have e : y = x := Option.some.inj h
        subst e
        exact ⟨fun _ => Nat.succ_pos _, fun _ => hy⟩
      | succ i =>
        have ih := cntB_lt (n := n) hp'.2 (i := i) (x := x) h
        unfold cntB at ih
        rw [ih]
        omega
    · have z : List.countP (fun x => decide (x < n)) ns = 0 := by
        rw [List.countP_eq_zero]
        intro a ha hn
        have h1 := hp'.1 a ha
        have h2 := of_decide_eq_true hn
        omega
      rw [if_neg (by simpa using hy), z]
      cases i with
      | zero =>
        have e : y = x := Option.some.inj h
        subst e
        exact ⟨fun h => absurd h hy, fun h => absurd h (Nat.lt_irrefl _)⟩
      | succ i =>
        have h1 := hp'.1 x (List.mem_of_getElem? h)
        constructor
        · intro h2; omega
        · intro h2; omega
end Sp
namespace Sp
open PySem L2
def spTo (K : PySem.W.Frag) : L2.Sp := fun vs H Q _ => ∃ (p : Addr) (ns : List Int) (n : Int), vs = [.ref p, .int n] ∧ SqL K H p (ns.map V.int) ∧ ns.Pairwise (· ≤ ·) ∧ Q (.int (cntB ns (n + 1) : Nat)) H
end Sp
namespace Sp
open PySem L2
/-- by one step -/
def stepped (b s : Int) (m : Nat) : List Int := (List.range m).map fun (k : Nat) => b + s * (k : Int)
theorem stepped_succ (b s : Int) (m : Nat) : stepped b s (m + 1) = stepped b s m ++ [b + s * (m : Int)] := by
  unfold stepped
  rw [List.range_succ, List.map_append, List.map_singleton]
theorem stepped_len (b s : Int) (m : Nat) : (stepped b s m).length = m := by unfold stepped; rw [List.length_map, List.length_range]
theorem stepped_mem {b s x : Int} {m : Nat} (h : x ∈ stepped b s m) : ∃ k : Nat, k < m ∧ x = b + s * (k : Int) := by
  unfold stepped at h
  obtain ⟨k, hk, rfl⟩ := List.mem_map.mp h
  exact ⟨k, List.mem_range.mp hk, rfl⟩
theorem stepped_sorted {b s : Int} (hs : 0 ≤ s) : ∀ m : Nat, (stepped b s m).Pairwise (· ≤ ·)
  | 0 => List.Pairwise.nil
  | m + 1 => by
    rw [stepped_succ]
    refine List.pairwise_append.mpr ⟨stepped_sorted hs m, List.pairwise_singleton _ _, fun x hx y hy => ?_⟩
    obtain ⟨k, hk, rfl⟩ := stepped_mem hx
    rw [List.mem_singleton.mp hy]
    have h1 : (k : Int) ≤ (m : Int) := by omega
    have h2 := Int.mul_le_mul_of_nonneg_left h1 hs
    omega
theorem perm_fine {ns ms : List Int} (hp : ms.Perm ns) (hs : ms.Pairwise (· ≤ ·)) (hb : ∀ n ∈ ns, -1000000000000000 ≤ n ∧ n ≤ 1000000000000000) : Fine ms := ⟨hs, fun n hn => hb n (hp.mem_iff.mp hn)⟩
end Sp
namespace Sp
open PySem L2
theorem fil_take {α : Type} {xs : List α} {f : α → Bool} {i : Nat} {x : α} (h : xs[i]? = some x) : (xs.take (i + 1)).filter f = (xs.take i).filter f ++ (if f x = true then [x] else []) := by
  rw [List.take_add_one, h, List.filter_append]
  cases e : f x with
  | true => simp [e]
  | false => simp [e]
theorem take_all {α : Type} (xs : List α) : xs.take xs.length = xs := List.take_length
theorem fil_len (ns : List Int) (n : Int) : (ns.filter fun x => decide (x < n)).length = cntB ns n := List.countP_eq_length_filter.symm
theorem fil_len_le (ns : List Int) (n : Int) : (ns.filter fun x => decide (x ≤ n)).length = cntB ns (n + 1) := by
  unfold cntB
  rw [List.countP_eq_length_filter]
  congr 1
  refine List.filter_congr fun x _ => ?_
  by_cases h : x ≤ n
  · rw [decide_eq_true h, decide_eq_true (show x < n + 1 by omega)]
  · rw [decide_eq_false h, decide_eq_false (show ¬ x < n + 1 by omega)]
def spRight3 (K : PySem.W.Frag) : L2.Sp := fun vs H Q _ => ∃ (p : Addr) (ns : List Int) (n : Int), vs = [.ref p, .int n] ∧ SqL K H p (ns.map V.int) ∧ ns.Pairwise (· ≤ ·) ∧ ns.length ≤ 1000 ∧ ∀ H', Same H H' → Q (.bl true) H'
end Sp
namespace Sp
open PySem L2
/-- a turn of [x for x in ns if f x]: kept or left out -/
theorem fil_yes {H0 H : Hp} {D : Addr} {ns : List Int} {f : Int → Bool} {i : Nat} {y : Int} (nD : H0 D = none) (w1 : Same H0 H) (w2 : H D = some (.lst (((ns.take i).filter f).map V.int))) (hy : ns[i]? = some y) (hl : ns.length ≤ 1000) (h : f y = true) :
    ∃ acc, H D = some (.lst acc) ∧ acc.length < sizeLine ∧ Same H0 (upd H D (.lst (acc ++ [V.int y]))) ∧ (upd H D (.lst (acc ++ [V.int y]))) D = some (.lst (((ns.take (i + 1)).filter f).map V.int)) := by
  refine ⟨_, w2, smallLt ?_, fun c o hc => ?_, ?_⟩
  · have h1 : ((ns.take i).filter f).length ≤ (ns.take i).length := List.length_filter_le _ _
    have h2 : (ns.take i).length ≤ ns.length := List.length_take_le' _ _
    rw [List.length_map]
    omega
  · rw [upd_ne (ne_of_none hc nD)]
    exact w1 c o hc
  · rw [upd_same, fil_take hy, if_pos h, List.map_append]
    rfl
theorem fil_no {H : Hp} {D : Addr} {ns : List Int} {f : Int → Bool} {i : Nat} {y : Int} (w2 : H D = some (.lst (((ns.take i).filter f).map V.int))) (hy : ns[i]? = some y) (h : ¬ f y = true) : H D = some (.lst (((ns.take (i + 1)).filter f).map V.int)) := by
  rw [fil_take hy, if_neg h, List.append_nil]
  exact w2
end Sp
namespace Sp
open PySem L2
def spLaw (K : PySem.W.Frag) : L2.Sp := fun vs H Q _ => ∃ (a : Addr) (ns : List Int), vs = [.ref a] ∧ SqL K H a (ns.map V.int) ∧ ns.length ≤ 63 ∧ ∀ H', Q (.bl true) H'
/-- a row of the law: sorted, small, no hand -/
structure RowAt (H : Hp) (a p : Addr) (ns : List Int) : Prop where
  at_ : H p = some (.lst (ns.map V.int))
  ne : p ≠ a
  fine : Fine ns
  len : ns.length ≤ 300
theorem RowAt.up {H H' : Hp} {a p : Addr} {ns : List Int} (r : RowAt H a p ns) (e : Ext a H H') : RowAt H' a p ns := ⟨e.keep _ _ r.at_ r.ne, r.ne, r.fine, r.len⟩
theorem RowAt.sq {K : PySem.W.Frag} {H : Hp} {a p : Addr} {ns : List Int} (r : RowAt H a p ns) : SqL K H p (ns.map V.int) := SqL.new r.at_
end Sp
namespace Sp
open PySem L2
theorem RowAt.hne {H : Hp} {a p : Addr} {ns : List Int} (r : RowAt H a p ns) : p ≠ a := r.ne
/-- one more item at a comprehension's list, the hand apart -/
theorem ext_app {a D : Addr} {H0 H : Hp} {xs : List V} (nD : H0 D = none) (nDa : D ≠ a) (e : Ext a H0 H) : Ext a H0 (upd H D (.lst xs)) := ⟨fun c o hc hca => by
    rw [upd_ne (ne_of_none hc nD)]
    exact e.keep c o hc hca, fun hh => by
    obtain ⟨u, v, e1, r⟩ := e.hand hh
    exact ⟨u, v, by rw [upd_ne nDa.symm]; exact e1, r⟩⟩
theorem same_app {D : Addr} {H0 H : Hp} {xs : List V} (nD : H0 D = none) (e : Same H0 H) : Same H0 (upd H D (.lst xs)) := fun c o hc => by
    rw [upd_ne (ne_of_none hc nD)]
    exact e c o hc
theorem map_app1 {xs : List Int} {y : Int} : xs.map V.int ++ [V.int y] = (xs ++ [y]).map V.int := by rw [List.map_append]; rfl
end Sp

namespace Rv
open PySem PySem.W PyProof.Rows L2
section
variable {prog : Program} {w : World} {A : Around} {E : Value → Shared → Prop} {s : Shared}
/-- (u, v)[::-1], raw -/
theorem get_rev2 {t sl : Addr} {u v vs : Value} {Q : Value → Shared → Prop} (ht : IsTup s.heap t #[u, v]) (hs : s.heap.IsSliceOf sl .none .none vs) (ps : IsPart vs (some (-1)))
    (h : Q (.ref s.heap.objs.size) { s with heap := s.heap.push { cls := .type "tuple", data := .seq #[v, u] } }) : wpAny (model prog w) A (getItem (.ref t) (.ref sl)) Q E s := by
  obtain ⟨os, hos, hcs, hds⟩ := id hs
  have hTs : s.TypeIs (.ref sl) "slice" := ⟨os, hos, hcs⟩
  unfold getItem
  try with_reducible refine wpAny_holding ?_
  first | refine wpAny_bind (wpAny_pure ?_) | skip
  refine wpAny_bind (wpAny_sequenceKey ht.typeIs (by decide) ?_)
  refine wpAny_bind (wpAny_callSpecial?_slot (name := Str.ofString "__getitem__") ht.typeIs PyProof.Rows.slot_tuple_getitem (wpAny_call_entry PyProof.Rows.slot_tuple_getitem ht.typeIs entry_tuple_getitem ?_ (args_tuple_getitem _ _)))
  show wpAny _ _ (Builtin.Tuple.tupleItemsOf (.ref t) >>= _) _ _ s
  refine wpAny_bind (tupleItemsOf_ ht ?_)
  refine wpAny_bind (wpAny_typeOf hTs ?_)
  rw [if_pos (by decide)]
  refine wpAny_bind ?_
  unfold Builtin.Slice.sliceApplied Builtin.Slice.sliceFields
  refine wpAny_bind (wpAny_bind (wpAny_field hos hds (x := Value.none) rfl (wpAny_bind (wpAny_field hos hds (x := Value.none) rfl (wpAny_bind (wpAny_field hos hds (x := vs) rfl (wpAny_pure ?_)))))))
  refine wpAny_bind (HT.slicePart_ ps ?_)
  show wpAny _ _ (if ((-1 : Int) == 0) = true then _ else _) _ _ s
  rw [if_neg (by decide)]
  refine wpAny_bind (slicePart_none (wpAny_bind (slicePart_none (wpAny_bind (wpAny_pure ?_)))))
  show wpAny _ _ (match Builtin.Slice.sliceAdjust none none (-1) (2 : Int) with | (lo, hi) => pure (lo, (-1 : Int), Builtin.Slice.slicePlaces lo hi (-1))) _ _ s
  have e1 : Builtin.Slice.sliceAdjust none none (-1) (2 : Int) = (1, -1) := by decide +kernel
  have e2 : Builtin.Slice.slicePlaces (1 : Int) (-1) (-1) = 2 := by decide +kernel
  rw [e1]
  show wpAny _ _ (pure ((1 : Int), (-1 : Int), Builtin.Slice.slicePlaces (1 : Int) (-1) (-1))) _ _ s
  rw [e2]
  refine wpAny_pure ?_
  show wpAny _ _ (if ((1 : Int) == 0 && (-1 : Int) == 1 && (2 : Nat) == #[u, v].size) = true then _ else _) _ _ s
  rw [if_neg (by rw [show ((1 : Int) == 0) = false from rfl]; exact Bool.false_ne_true)]
  have e3 : ((List.range 2).filterMap fun (k : Nat) => #[u, v][((1 : Int) + (k : Int) * (-1)).toNat]?).toArray = #[v, u] := rfl
  rw [e3]
  have htake : sizeOk (.seq #[v, u]) := by show 2 ≤ sizeLine; decide
  first
    | exact wpAny_bind (m := Builtin.Tuple.tupleExact _) (wpAny_newObj_type (wpAny_pure ⟨_, rfl, wpAny_pure h⟩) htake)
    | exact wpAny_bind (m := Builtin.Tuple.tupleExact _) (wpAny_newObj_type (wpAny_bind (wpAny_pure (wpAny_pure ⟨_, rfl, wpAny_pure h⟩))) htake)
    | exact wpAny_bind (wpAny_bind (m := Builtin.Tuple.tupleExact _) (wpAny_newObj_type (wpAny_pure (wpAny_pure ⟨_, rfl, wpAny_pure h⟩)) htake))
end
/-- t[::-1], t a pair -/
def tRev2 (K : PySem.W.Frag) (te : TE) : TE := fun σ H Q => te σ H fun x H1 => ∃ a u v, x = .ref a ∧ SqT K H1 a [u, v] ∧ ∀ p, H1 p = none → Q (.ref p) (upd H1 p (.tup [v, u]))
theorem pe_rev2 {X : Cx} {e : Expr} {te : TE} {k : Nat} {p1 p2 p3 pos : Pos} (he : PE X e te) : PE X (.Subscript e (.Slice none none (some (.UnaryOp .USub (.Constant (.int 1) k p1) p2)) p3) pos) (tRev2 X.K te) := by
  refine ⟨fun pins s σ H Q I h => ?_⟩
  refine Subscript_ (thn (he.run pins s σ H _ I h) fun v s1 ⟨x, H1, I1, r1, q1⟩ => ?_)
  obtain ⟨a, u, w', rfl, hx, q⟩ := q1
  cases r1
  have hst : PO X (some (.UnaryOp .USub (.Constant (.int 1) k p1) p2)) (tPart (tUn (rU fun i => .int (-i)) (tC (.int 1)))) := po_some (pe_un un_neg pe_int)
  refine wpAny_Slice (thn (po_none.run pins s1 σ H1 (fun o H2 => o = none ∧ H2 = H1) I1 ⟨rfl, rfl⟩) fun vl s2 ⟨l, H2, I2, pl, el, e2⟩ => ?_)
  subst el e2
  refine thn (po_none.run pins s2 σ H2 (fun o H3 => o = none ∧ H3 = H2) I2 ⟨rfl, rfl⟩) fun vu s3 ⟨u3, H3, I3, pu, eu, e3⟩ => ?_
  subst eu e3
  refine thn (hst.run pins s3 σ H3 (fun o H4 => o = some (-1) ∧ H4 = H3) I3 ⟨1, rfl, -1, rfl, rfl, rfl⟩) fun vs s4 ⟨o, H4, I4, ps, eo, e4⟩ => ?_
  subst eo e4
  cases pl
  cases pu
  have I5 : Inv X pins σ H4 { s4 with heap := s4.heap.push { cls := .type "slice", data := .fields #[Value.none, Value.none, vs] } } := I4.kept (t' := s4.toks) fun b ob q => Heap.get?_push_of_some _ q
  obtain ⟨its, r, ht, hz⟩ := I5.tuple hx
  cases r with
  | cons ra rr =>
    cases rr with
    | cons rb rc =>
      cases rc
      show wpAny (model X.prog X.w) X.A (subscriptTail e (.Slice none none (some (.UnaryOp .USub (.Constant (.int 1) k p1) p2)) p3) (.ref a) (.ref s4.heap.objs.size)) (EP X pins σ Q) X.xe { s4 with heap := s4.heap.push { cls := .type "slice", data := .fields #[Value.none, Value.none, vs] } }
      refine tail_any (ops := [.ref a, .ref s4.heap.objs.size]) ht.typeIs (PyProof.Rows.slot_tuple_getitem.lookup) ?_ (by with_unfolding_all rfl)
      refine get_rev2 ht (Heap.IsSliceOf.new _ Value.none Value.none vs) ps ?_
      exact ⟨.ref _, _, I5.laid (t' := s4.toks) (o := .tup [w', u]) (fun b ob q => Heap.get?_push_of_some _ q) (Nat.le_refl _) ⟨by show 2 ≤ sizeLine; decide, _, .cons rb (.cons ra .nil), IsTup.new _ _⟩, rfl, q _ (I5.hok.fresh (Nat.le_refl _))⟩
end Rv

namespace Sp
open PySem L2
/-! ### sums below -/
def cntS (ns ms : List Int) (n : Int) : Nat := (ns.map fun x => cntB ms (n - x)).sum
theorem cntB_mono {ms : List Int} {n m : Int} (h : n ≤ m) : cntB ms n ≤ cntB ms m := by
  unfold cntB
  refine List.countP_mono_left fun x _ hx => ?_
  have := of_decide_eq_true hx
  exact decide_eq_true (by omega)
theorem cntS_nil (ms : List Int) (n : Int) : cntS [] ms n = 0 := rfl
theorem cntS_snoc (ns ms : List Int) (x n : Int) : cntS (ns ++ [x]) ms n = cntS ns ms n + cntB ms (n - x) := by
  unfold cntS
  rw [List.map_append, List.sum_append]
  rfl
theorem take_snoc {α : Type} {xs : List α} {i : Nat} {x : α} (h : xs[i]? = some x) : xs.take (i + 1) = xs.take i ++ [x] := by rw [List.take_add_one, h]; rfl
theorem sorted_le {ns : List Int} (hp : ns.Pairwise (· ≤ ·)) {i j : Nat} {x y : Int} (hx : ns[i]? = some x) (hy : ns[j]? = some y) (h : i ≤ j) : x ≤ y := by
  obtain ⟨h1, e1⟩ := List.getElem?_eq_some_iff.mp hx
  obtain ⟨h2, e2⟩ := List.getElem?_eq_some_iff.mp hy
  rcases Nat.lt_or_eq_of_le h with h | h
  · have := (List.pairwise_iff_getElem.mp hp) i j h1 h2 h
    rw [e1, e2] at this
    exact this
  · subst h
    rw [hx] at hy
    rw [Option.some.inj hy]
    exact Int.le_refl _
theorem cnt_sum (ms : List Int) (x n : Int) : (ms.filter fun y => decide (x + y < n)).length = cntB ms (n - x) := by
  unfold cntB
  rw [List.countP_eq_length_filter]
  congr 1
  refine List.filter_congr fun y _ => ?_
  by_cases h : x + y < n
  · rw [decide_eq_true h, decide_eq_true (show y < n - x by omega)]
  · rw [decide_eq_false h, decide_eq_false (show ¬ y < n - x by omega)]
theorem cnt_sum_le (ms : List Int) (x n : Int) : (ms.filter fun y => decide (x + y ≤ n)).length = cntB ms (n + 1 - x) := by
  unfold cntB
  rw [List.countP_eq_length_filter]
  congr 1
  refine List.filter_congr fun y _ => ?_
  by_cases h : x + y ≤ n
  · rw [decide_eq_true h, decide_eq_true (show y < n + 1 - x by omega)]
  · rw [decide_eq_false h, decide_eq_false (show ¬ y < n + 1 - x by omega)]
def spSums (K : PySem.W.Frag) : L2.Sp := fun vs H Q _ => ∃ (p q : Addr) (ns ms : List Int) (n : Int), vs = [.ref p, .ref q, .int n] ∧ SqL K H p (ns.map V.int) ∧ SqL K H q (ms.map V.int) ∧ ns.Pairwise (· ≤ ·) ∧ ms.Pairwise (· ≤ ·) ∧ Q (.int (cntS ns ms n : Nat)) H
def spSumsTo (K : PySem.W.Frag) : L2.Sp := fun vs H Q _ => ∃ (p q : Addr) (ns ms : List Int) (n : Int), vs = [.ref p, .ref q, .int n] ∧ SqL K H p (ns.map V.int) ∧ SqL K H q (ms.map V.int) ∧ ns.Pairwise (· ≤ ·) ∧ ms.Pairwise (· ≤ ·) ∧ Q (.int (cntS ns ms (n + 1) : Nat)) H
/-- the law's own count, pair by pair -/
def spDue (K : PySem.W.Frag) (d : Int) : L2.Sp := fun vs H Q _ => ∃ (p q : Addr) (ns ms : List Int) (n : Int), vs = [.ref p, .ref q, .int n] ∧ SqL K H p (ns.map V.int) ∧ SqL K H q (ms.map V.int) ∧ ms.length ≤ 1000 ∧ ∀ H', Same H H' → Q (.int (cntS ns ms (n + d) : Nat)) H'
/-- two rows in a pair -/
def spTwo : L2.Sp := fun vs H Q _ => ∃ (a : Addr) (b : Bool), vs = [.ref a, .bl b] ∧ HandAt H a ∧
  ∀ (t p q : Addr) (ns ms : List Int) (H' : Hp), Ext a H H' → H' t = some (.tup [.ref p, .ref q]) → t ≠ a → RowAt H' a p ns → RowAt H' a q ms → Q (.ref t) H'
def Mid (zs : List Int) : Prop := ∀ z ∈ zs, -(2 ^ 150) < z ∧ z < 2 ^ 150
def spAsked : L2.Sp := fun vs H Q _ => ∃ (a p q : Addr) (ns ms : List Int), vs = [.ref a, .ref p, .ref q] ∧ HandAt H a ∧ RowAt H a p ns ∧ RowAt H a q ms ∧
  ∀ (r : Addr) (zs : List Int) (H' : Hp), Ext a H H' → H r = none → H' r = some (.lst (zs.map V.int)) → zs.length ≤ 9 → Mid zs → Q (.ref r) H'
end Sp
namespace Sp
open PySem L2
theorem at_map {ns : List Int} {r x : Int} (h : atI ns r = some x) : atI (ns.map V.int) r = some (.int x) := by
  unfold atI at h ⊢
  rw [List.length_map]
  cases e : ixN ns.length r with
  | none => rw [e] at h; cases h
  | some j =>
    rw [e] at h
    show (ns.map V.int)[j]? = _
    rw [List.getElem?_map, show ns[j]? = some x from h]
    rfl
end Sp
namespace Sp
open PySem L2
theorem shaped_two (ns ms : List Int) : SeqAt.shaped (.list [di ns, di ms]) = true := by
  unfold SeqAt.shaped
  simp only [PyData.canLay0, PyData.canLayAll0, lay_ints, PyData.depth, PyData.depthAll, dep_ints]
  rfl
theorem eqv_two (ns ms : List Int) : PyData.eqv (.list [di ns, di ms]) (.list [di ns, di ms]) = true := by
  rw [PyData.eqv]
  refine eqvAll_same fun x hx => ?_
  simp only [List.mem_cons, List.not_mem_nil, or_false] at hx
  rcases hx with rfl | rfl
  · rw [eqv_ints]; exact decide_eq_true rfl
  · rw [eqv_ints]; exact decide_eq_true rfl
theorem dp_two {K : PySem.W.Frag} {H : Hp} {l p q : Addr} {ns ms : List Int} (h : H l = some (.lst [.ref p, .ref q])) (hp : SqL K H p (ns.map V.int)) (hq : SqL K H q (ms.map V.int)) : Dp K H (.ref l) (.list [di ns, di ms]) :=
  .lst (SqL.new h) (.cons (dp_ints hp) (.cons (dp_ints hq) .nil))
end Sp

namespace Sp
open PySem L2
/-- a loop over enumerate(list), the list standing still -/
theorem for_enum {K : PySem.W.Frag} {a : Addr} {xs : List V} {g : TG} {tb : TS} {D : Ends} {σ : L2.St} {H : Hp} (Pv : Nat → L2.St → Hp → Prop) (h0 : Pv 0 σ H) (hl : ∀ i σ H, i ≤ xs.length → Pv i σ H → SqL K H a xs)
    (hs : ∀ i x σ H T, xs[i]? = some x → Pv i σ H → H T = none → g (.ref T) σ (upd H T (.tup [.int (i : Nat), x])) fun σ2 H2 => tb { D with nx := Pv (i + 1), ct := Pv (i + 1), bk := D.nx } σ2 H2) (hd : ∀ σ H, Pv xs.length σ H → D.nx σ H) :
    ∃ W : Nat → Nat → L2.St → Hp → Prop, (∃ m, W 0 m σ H) ∧ ∀ i m σ H, W i m σ H →
      ((Ite K a).stop i H ∧ D.nx σ H) ∨ ((Ite K a).go i H ∧ ∃ N : L2.St → Hp → Prop, (∀ σ' H', N σ' H' → ∃ m', m' < m ∧ W (i + 1) m' σ' H') ∧ ∀ x H', (Ite K a).yld i H x H' → g x σ H' fun σ2 H2 => tb { D with nx := N, ct := N, bk := D.nx } σ2 H2) := by
  refine ⟨fun i m σ H => m = xs.length - i ∧ i ≤ xs.length ∧ Pv i σ H, ⟨xs.length, by simp, Nat.zero_le _, h0⟩, fun i m σ H w => ?_⟩
  obtain ⟨rfl, hi, p⟩ := w
  have q := hl i σ H hi p
  by_cases hlt : i < xs.length
  · refine .inr ⟨⟨xs, xs[i], q, List.getElem?_eq_getElem hlt⟩, Pv (i + 1), fun σ' H' p' => ⟨xs.length - (i + 1), by omega, rfl, hlt, p'⟩, fun x H' y => ?_⟩
    obtain ⟨T, z, rfl, nT, rfl, f⟩ := y
    exact hs i z σ H T (f xs q) p nT
  · obtain rfl : i = xs.length := by omega
    exact .inl ⟨⟨xs, q, Nat.le_refl _⟩, hd σ H p⟩
/-! ### is_row, of anything -/
abbrev kinds : List String := ["bool", "str", "NoneType", "list", "tuple", "dict"]
def NoInt (K : PySem.W.Frag) (H : Hp) (x : V) : Prop := ∃ T, T ∈ kinds ∧ TyX K H x (.type T)
def Kn (K : PySem.W.Frag) (H : Hp) (x : V) : Prop := (∃ n, x = .int n) ∨ NoInt K H x
theorem TyX.up {K : PySem.W.Frag} {H H' : Hp} {x : V} {t : Value} (s : Same H H') (h : TyX K H x t) : TyX K H' x t := by
  cases h with
  | base b =>
    cases b with
    | non => exact .base .non
    | bl y => exact .base (.bl y)
    | int i => exact .base (.int i)
    | str y => exact .base (.str y)
    | flt y => exact .base (.flt y)
    | lst e => exact .base (.lst (s _ _ e))
    | frz e => exact .base (.frz (s _ _ e))
    | tup e => exact .base (.tup (s _ _ e))
    | dK e => exact .base (.dK (s _ _ e))
    | dT e => exact .base (.dT (s _ _ e))
    | ins e c1 c2 c3 c4 c5 => exact .base (.ins (s _ _ e) c1 c2 c3 c4 c5)
  | byt b => exact .byt b
  | set e => exact .set (s _ _ e)
  | kList e c => exact .kList e c
  | kTuple e c => exact .kTuple e c
  | kDict e c => exact .kDict e c
  | fTuple e => exact .fTuple (s _ _ e)
  | fDict e => exact .fDict (s _ _ e)
theorem NoInt.up {K : PySem.W.Frag} {H H' : Hp} {x : V} (s : Same H H') (h : NoInt K H x) : NoInt K H' x := let ⟨T, m, t⟩ := h; ⟨T, m, TyX.up s t⟩
theorem Kn.up {K : PySem.W.Frag} {H H' : Hp} {x : V} (s : Same H H') (h : Kn K H x) : Kn K H' x := h.imp id fun z => z.up s
theorem NoInt.ne {K : PySem.W.Frag} {H : Hp} {x : V} (h : NoInt K H x) (n : Int) : x ≠ .int n := by
  rintro rfl
  obtain ⟨T, m, t⟩ := h
  cases t with
  | base b =>
    cases b
    simp at m
def IsRow (xs : List V) : Prop := ∃ ns : List Int, xs = ns.map V.int ∧ ns.Pairwise (· ≤ ·)
def spIsWhole (K : PySem.W.Frag) : L2.Sp := fun vs H Q _ => ∃ x : V, vs = [x] ∧ (((∃ n, x = .int n) ∧ Q (.bl true) H) ∨ (NoInt K H x ∧ Q (.bl false) H))
def spIsRow (K : PySem.W.Frag) : L2.Sp := fun vs H Q _ => ∃ x : V, vs = [x] ∧ ((∃ (p : Addr) (xs : List V), x = .ref p ∧ SqL K H p xs ∧ (∀ y ∈ xs, Kn K H y) ∧ ∀ (b : Bool) (H' : Hp), (b = true ↔ IsRow xs) → Same H H' → Q (.bl b) H') ∨
  (∃ T, T ∈ ["int", "bool", "str", "NoneType", "tuple", "dict"] ∧ TyX K H x (.type T) ∧ Q (.bl false) H))
theorem IsRow.map (ns : List Int) : IsRow (ns.map V.int) ↔ ns.Pairwise (· ≤ ·) := by
  constructor
  · rintro ⟨ms, e, h⟩
    have e2 : ns = ms := by
      have := congrArg (List.map fun v => match v with | V.int i => i | _ => 0) e
      rw [List.map_map, List.map_map] at this
      have f : ((fun v => match v with | V.int i => i | _ => (0 : Int)) ∘ V.int) = id := rfl
      rw [f, List.map_id, List.map_id] at this
      exact this
    rw [e2]
    exact h
  · exact fun h => ⟨ns, rfl, h⟩
theorem tyList {K : PySem.W.Frag} {H : Hp} {p : Addr} {xs : List V} (h : SqL K H p xs) : TyX K H (.ref p) (.type "list") := by
  rcases h with (h | ⟨o, h⟩) | ⟨o, its, n, hk, hc, _⟩
  · exact .base (.lst h)
  · exact .base (.frz h)
  · exact .kList hk hc
end Sp
namespace Sp
open PySem L2
/-! ### joined, turned, counted -/
theorem sorted_one {ns ms : List Int} (hp : ns.Perm ms) (h1 : ns.Pairwise (· ≤ ·)) (h2 : ms.Pairwise (· ≤ ·)) : ns = ms := hp.eq_of_pairwise (fun a b _ _ x y => Int.le_antisymm x y) h1 h2
def spJoined : L2.Sp := fun vs H Q _ => ∃ (p q : Addr) (ns ms : List Int), vs = [.ref p, .ref q] ∧ H p = some (.lst (ns.map V.int)) ∧ H q = some (.lst (ms.map V.int)) ∧ ns.length + ms.length ≤ 10000 ∧
  ∀ (r : Addr) (js : List Int) (H' : Hp), Same H H' → H r = none → H' r = some (.lst (js.map V.int)) → js.Perm (ns ++ ms) → js.Pairwise (· ≤ ·) → Q (.ref r) H'
def turned (ns : List Int) : List Int := ns.reverse.map fun x => 0 - x
def spTurned (K : PySem.W.Frag) : L2.Sp := fun vs H Q _ => ∃ (p : Addr) (ns : List Int), vs = [.ref p] ∧ SqL K H p (ns.map V.int) ∧ ns.length ≤ 10000 ∧ ∀ (r : Addr) (H' : Hp), Same H H' → H r = none → H' r = some (.lst ((turned ns).map V.int)) → Q (.ref r) H'
theorem cntB_perm {ns ms : List Int} (h : ns.Perm ms) (n : Int) : cntB ns n = cntB ms n := h.countP_eq _
theorem cntB_append (ns ms : List Int) (n : Int) : cntB (ns ++ ms) n = cntB ns n + cntB ms n := List.countP_append
theorem cntB_next : ∀ (ns : List Int) (n : Int), cntB ns (n + 1) = cntB ns n + ns.count n
  | [], n => rfl
  | x :: ns, n => by
    have ih := cntB_next ns n
    unfold cntB at ih ⊢
    rw [List.countP_cons, List.countP_cons, List.count_cons, ih]
    by_cases h : x < n
    · rw [if_pos (decide_eq_true (show x < n + 1 by omega)), if_pos (decide_eq_true h), if_neg (by simp; omega)]
      omega
    · by_cases h2 : x = n
      · rw [if_pos (decide_eq_true (show x < n + 1 by omega)), if_neg (by simpa using h), if_pos (by simp [h2])]
        omega
      · rw [if_neg (by simp; omega), if_neg (by simpa using h), if_neg (by simpa using h2)]
        omega
theorem cntB_turned (ns : List Int) (n : Int) : cntB (turned ns) (0 - n) + cntB ns (n + 1) = ns.length := by
  have key : ∀ l : List Int, cntB (l.map fun x => 0 - x) (0 - n) + cntB l (n + 1) = l.length := by
    intro l
    induction l with
    | nil => rfl
    | cons x l ih =>
      unfold cntB at ih ⊢
      rw [List.map_cons, List.countP_cons, List.countP_cons, List.length_cons]
      by_cases h : x < n + 1
      · rw [if_pos (decide_eq_true h), if_neg (by simp; omega)]
        omega
      · rw [if_pos (decide_eq_true (show 0 - x < 0 - n by omega)), if_neg (by simp; omega)]
        omega
  have h1 := key ns.reverse
  have h2 : cntB ns.reverse (n + 1) = cntB ns (n + 1) := cntB_perm (List.reverse_perm ns) _
  rw [h2, List.length_reverse] at h1
  exact h1
theorem turned_sorted {ns : List Int} (h : ns.Pairwise (· ≤ ·)) : (turned ns).Pairwise (· ≤ ·) := by
  unfold turned
  rw [List.pairwise_map, List.pairwise_reverse]
  exact h.imp fun h => by omega
def spCounts (K : PySem.W.Frag) : L2.Sp := fun vs H Q _ => ∃ (p q b : Addr) (ns ms js : List Int) (n : Int), vs = [.ref p, .ref q, .ref b, .int n] ∧ SqL K H p (ns.map V.int) ∧ SqL K H q (ms.map V.int) ∧ SqL K H b (js.map V.int) ∧
  ns.Pairwise (· ≤ ·) ∧ ms.Pairwise (· ≤ ·) ∧ js.Pairwise (· ≤ ·) ∧ js.Perm (ns ++ ms) ∧ ns.length ≤ 10000 ∧ ∀ H', Same H H' → Q (.bl true) H'
end Sp
namespace Sp
open PySem L2
theorem ne_same {x : V} {H : Hp} {Q : VK} (hs : scal x x = true) (q : Q (.bl false) H) : rNe x x H Q := ⟨hs, by rw [decide_eq_true rfl]; exact q⟩
theorem eq_same {x : V} {H : Hp} {Q : VK} (hs : scal x x = true) (q : Q (.bl true) H) : rEq x x H Q := ⟨hs, by rw [decide_eq_true rfl]; exact q⟩
end Sp
namespace Sp
open PySem L2
theorem map_cnt_sorted {js zs : List Int} (h : zs.Pairwise (· ≤ ·)) : (zs.map fun z => ((cntB js z : Nat) : Int)).Pairwise (· ≤ ·) := by
  rw [List.pairwise_map]
  exact h.imp fun h => Int.ofNat_le.mpr (cntB_mono h)
/-- a turn of [f x for x in ns] -/
theorem map_turn {H0 H : Hp} {D : Addr} {ns : List Int} {f : Int → Int} {i : Nat} {y : Int} (nD : H0 D = none) (w1 : Same H0 H) (w2 : H D = some (.lst (((ns.take i).map f).map V.int))) (hy : ns[i]? = some y) (hl : ns.length ≤ 10000) :
    ∃ acc, H D = some (.lst acc) ∧ acc.length < sizeLine ∧ Same H0 (upd H D (.lst (acc ++ [V.int (f y)]))) ∧ (upd H D (.lst (acc ++ [V.int (f y)]))) D = some (.lst (((ns.take (i + 1)).map f).map V.int)) := by
  refine ⟨_, w2, smallLt ?_, same_app nD w1, ?_⟩
  · have := List.length_take_le' i ns
    rw [List.length_map, List.length_map]
    omega
  · rw [upd_same, take_snoc hy, map_app1, List.map_append, List.map_append, List.map_append]
    rfl
end Sp

namespace Sp
open PySem L2
/-- the scope of a comprehension that the j-th statement of a def stores -/
def compScopeAt (s : Stmt) (j : Nat) : Scope := match (defBody s).getD j (.Pass ⟨0, 0, 0, 0⟩) with
  | .Assign _ (.ListComp _ _ sc _) _ => sc
  | _ => { kind := .function, names := [], isGenerator := false, isCoroutine := false }
/-! ### sums, otherwise -/
theorem cntB_cons (y : Int) (ms : List Int) (n : Int) : cntB (y :: ms) n = cntB ms n + (if y < n then 1 else 0) := by
  unfold cntB
  rw [List.countP_cons]
  by_cases h : y < n
  · rw [if_pos (decide_eq_true h), if_pos h]
  · rw [if_neg (by simpa using h), if_neg h]
theorem cntS_cons (x : Int) (ns ms : List Int) (n : Int) : cntS (x :: ns) ms n = cntB ms (n - x) + cntS ns ms n := by
  unfold cntS
  rw [List.map_cons, List.sum_cons]
theorem cntS_cons_r : ∀ (ns : List Int) (y : Int) (ms : List Int) (n : Int), cntS ns (y :: ms) n = cntB ns (n - y) + cntS ns ms n
  | [], y, ms, n => rfl
  | x :: ns, y, ms, n => by
    rw [cntS_cons, cntS_cons, cntS_cons_r ns y ms n, cntB_cons, cntB_cons]
    have : (y < n - x) ↔ (x < n - y) := by omega
    by_cases h : y < n - x
    · rw [if_pos h, if_pos (this.mp h)]
      omega
    · rw [if_neg h, if_neg (fun k => h (this.mpr k))]
      omega
theorem cntS_nil_r : ∀ (ns : List Int) (n : Int), cntS ns [] n = 0
  | [], n => rfl
  | x :: ns, n => by rw [cntS_cons, cntS_nil_r ns n]; rfl
theorem cntS_comm : ∀ (ns ms : List Int) (n : Int), cntS ms ns n = cntS ns ms n
  | [], ms, n => by rw [cntS_nil_r]; rfl
  | x :: ns, ms, n => by rw [cntS_cons_r, cntS_cons, cntS_comm ns ms n]
theorem cntS_append (ns ks ms : List Int) (n : Int) : cntS (ns ++ ks) ms n = cntS ns ms n + cntS ks ms n := by
  unfold cntS
  rw [List.map_append, List.sum_append]
theorem cntS_perm {ns ks : List Int} (h : ns.Perm ks) (ms : List Int) (n : Int) : cntS ns ms n = cntS ks ms n := (h.map _).sum_nat
theorem cntS_shift : ∀ (ns ms : List Int) (n b : Int), cntS (ns.map fun x => x + b) ms (n + b) = cntS ns ms n
  | [], ms, n, b => rfl
  | x :: ns, ms, n, b => by
    rw [List.map_cons, cntS_cons, cntS_cons, cntS_shift ns ms n b]
    rw [show n + b - (x + b) = n - x from by omega]
theorem cntB_three : ∀ (ms : List Int) (n : Int), cntB (ms.map fun x => x * 3) (n * 3) = cntB ms n
  | [], n => rfl
  | y :: ms, n => by
    rw [List.map_cons, cntB_cons, cntB_cons, cntB_three ms n]
    by_cases h : y < n
    · rw [if_pos h, if_pos (by omega)]
    · rw [if_neg h, if_neg (by omega)]
theorem cntS_three : ∀ (ns ms : List Int) (n : Int), cntS (ns.map fun x => x * 3) (ms.map fun x => x * 3) (n * 3) = cntS ns ms n
  | [], ms, n => rfl
  | x :: ns, ms, n => by
    rw [List.map_cons, cntS_cons, cntS_cons, cntS_three ns ms n]
    rw [show n * 3 - x * 3 = (n - x) * 3 from by omega, cntB_three]
theorem cntS_turned (ns ms : List Int) (n : Int) : cntS (turned ns) (turned ms) (0 - n + 1) + cntS ns ms n = ns.length * ms.length := by
  have key : ∀ l : List Int, cntS (l.map fun x => 0 - x) (turned ms) (0 - n + 1) + cntS l ms n = l.length * ms.length := by
    intro l
    induction l with
    | nil => rw [List.length_nil, Nat.zero_mul]; rfl
    | cons x l ih =>
      rw [List.map_cons, cntS_cons, cntS_cons, List.length_cons, Nat.add_mul, Nat.one_mul]
      have h := cntB_turned ms (n - x - 1)
      rw [show n - x - 1 + 1 = n - x from by omega] at h
      rw [show 0 - n + 1 - (0 - x) = 0 - (n - x - 1) from by omega]
      omega
  have h1 := key ns.reverse
  rw [List.length_reverse, cntS_perm (List.reverse_perm ns)] at h1
  exact h1
theorem cntB_all : ∀ {ms : List Int} {n : Int}, (∀ y ∈ ms, y < n) → cntB ms n = ms.length
  | [], n, _ => rfl
  | y :: ms, n, h => by
    rw [cntB_cons, cntB_all fun z hz => h z (List.mem_cons_of_mem _ hz), if_pos (h y List.mem_cons_self), List.length_cons]
theorem cntS_all : ∀ {ns ms : List Int} {n : Int}, (∀ x ∈ ns, ∀ y ∈ ms, x + y < n) → cntS ns ms n = ns.length * ms.length
  | [], ms, n, _ => by rw [List.length_nil, Nat.zero_mul]; rfl
  | x :: ns, ms, n, h => by
    rw [cntS_cons, cntS_all (fun z hz => h z (List.mem_cons_of_mem _ hz)), cntB_all (fun y hy => (by have := h x List.mem_cons_self y hy; omega)), List.length_cons, Nat.add_mul, Nat.one_mul, Nat.add_comm]
theorem cntS_mono {ns ms : List Int} {n m : Int} (h : n ≤ m) : cntS ns ms n ≤ cntS ns ms m := by
  induction ns with
  | nil => exact Nat.le_refl _
  | cons x ns ih =>
    rw [cntS_cons, cntS_cons]
    exact Nat.add_le_add (cntB_mono (by omega)) ih
theorem cntS_one (b : Int) (ms : List Int) (n : Int) : cntS [b] ms n = cntB ms (n - b) := by rw [cntS_cons]; rfl
theorem map_cntS_sorted {ns ms zs : List Int} (h : zs.Pairwise (· ≤ ·)) : (zs.map fun z => ((cntS ns ms z : Nat) : Int)).Pairwise (· ≤ ·) := by
  rw [List.pairwise_map]
  exact h.imp fun h => Int.ofNat_le.mpr (cntS_mono h)
theorem div_fine {ns : List Int} (h : Fine ns) : Fine (ns.map fun x => x / 4) := by
  refine ⟨?_, fun z hz => ?_⟩
  · rw [List.pairwise_map]
    exact h.1.imp fun h => Int.ediv_le_ediv (by decide) h
  · obtain ⟨x, hx, rfl⟩ := List.mem_map.mp hz
    have := h.2 x hx
    omega
theorem shift_sorted {ns : List Int} (b : Int) (h : ns.Pairwise (· ≤ ·)) : (ns.map fun x => x + b).Pairwise (· ≤ ·) := by
  rw [List.pairwise_map]
  exact h.imp fun h => by omega
theorem three_sorted {ns : List Int} (h : ns.Pairwise (· ≤ ·)) : (ns.map fun x => x * 3).Pairwise (· ≤ ·) := by
  rw [List.pairwise_map]
  exact h.imp fun h => by omega
def spRight7 (K : PySem.W.Frag) : L2.Sp := fun vs H Q _ => ∃ (p q t : Addr) (ns ms ks : List Int) (n b : Int), vs = [.ref p, .ref q, .ref t, .int n, .int b] ∧ H p = some (.lst (ns.map V.int)) ∧ H q = some (.lst (ms.map V.int)) ∧ H t = some (.lst (ks.map V.int)) ∧
  Fine ns ∧ Fine ms ∧ Fine ks ∧ ns.length ≤ 300 ∧ ms.length ≤ 300 ∧ ks.length ≤ 300 ∧ -(2 ^ 160) < n ∧ n < 2 ^ 160 ∧ ∀ H', Same H H' → Q (.bl true) H'
end Sp
namespace Sp
open PySem L2
/-- within a comprehension: the written part by its own name -/
theorem pi_listK {X : Cx} {K : PySem.W.Frag} {tg l : Expr} {tl : TE} (hK : X.K = K) (hl : PE X l tl) : PI X tg l (iList K tl) := hK ▸ pi_list hl
end Sp
namespace Sp
open PySem L2
theorem mid_div {zs : List Int} (h : Mid zs) : Mid (zs.map fun x => x / 4) := fun z hz => by
  obtain ⟨x, hx, rfl⟩ := List.mem_map.mp hz
  have := h x hx
  omega
end Sp

/-! defs that ask repr of a list: they are called where no repr is under way. -/
namespace Gd
open PySem PySem.Spec PyProof.Rows L2 Sp
/-- a def that keeps its promise wherever no repr is under way -/
structure FnG (P : Program) (w : World) (K : PySem.W.Frag) (mg : Str → Option Value) (base : Heap) (k : Nat) (f : Addr) (fd : FuncData) (ps : List Str) (sp : L2.Sp) : Prop where
  many : ∀ vs H Q E, sp vs H Q E → vs.length = ps.length
  goes : ∀ (B : Around) (fs : List Env) (z : Shared) (H : Hp) (ws : Args) (us : List Value) (vs : List V) (Q : VK) (E : XK), B.guards = some [] → Room k B →
    Env0 P w K mg base B fs z H → BindsTo z fd ws (ps.zip us) → Vals vs us → sp vs H Q E → codeAny (model P w) B (.call (.ref f) ws) (CR CX0 fs P w H z Q E) z
/-- such a def of the text by its name -/
structure CalG (P : Program) (w : World) (K : PySem.W.Frag) (mg : Str → Option Value) (base : Heap) (k : Nat) (x : Str) (ps : List Str) (sp : L2.Sp) : Prop where
  ex : ∃ (f : Addr) (fd : FuncData), FnG P w K mg base k f fd ps sp ∧ mg x = some (.ref f) ∧ PySem.W.keepIn K (.ref f) = true ∧ Binds K fd ps []
section
variable {P : Program} {w : World} {K : PySem.W.Frag} {mg : Str → Option Value} {base : Heap}
theorem okG {x qual : Str} {st : Stmt} {f : Addr} {fd : FuncData} {N ps : List Str} {k : Nat} {sp : L2.Sp} (F : Fun K x qual st f fd) (S : FnScope N ps (defScope st)) (many : ∀ vs H Q E, sp vs H Q E → vs.length = ps.length)
    (go : ∀ (c : Value) (B : Around) (fs : List Env) (z : Shared) (H : Hp) (vs : List V) (Q : VK) (E : XK), B.guards = some [] → Room k (B.deeper (envOfC qual (defScope st) z.heap.objs.size f c)) → sp vs H Q E →
      ∃ t, PSs (cxOf CX0 P w K mg base N qual (defScope st) f c B fs z H E).nox (defBody st) t ∧ t { nx := fun _ H2 => Q .non H2, rt := Q } (start N vs) H) : FnG P w K mg base (k + 1) f fd ps sp := by
  obtain ⟨oc, od, kV, doc, pm, an, c, ct, osl, rfl, lk, hc⟩ := F.ex
  refine ⟨many, fun B fs z H ws us vs Q E hg hr e0 hb r hsp => ?_⟩
  have kin : K.In z.heap := e0.mod.kin.keeps fun b o e => (e0.bs b o e).1
  have nl : z.heap.NoLimit := e0.mod.nolimit.keeps fun b o e => (e0.bs b o e).1
  have kinds : ∀ y ∈ ps.zip us, (defScope st).names.lookup y.1 = some .local ∨ ((defScope st).names.lookup y.1 = some .cell ∧ ((cellsFrom (z.heap.objs.size + 1) (defScope st).names []).lookup y.1).isSome = true) := by
    intro y hy
    rcases S.par y.1 (List.of_mem_zip hy).1 with q | q
    · exact .inl q
    · exact .inr ⟨q, PySem.W.cellsFrom_some _ _ _ (.inl q)⟩
  refine codeAny_call_function hr.depth (kin _ _ lk) rfl S.co S.gen rfl (PySem.W.codeRec_of kin hc) (hb _ _ _ _ (wpAny_newFunctionEnv_cells S.kind kinds fun env he z1 y => ?_))
  subst he
  obtain ⟨t, ht, hq⟩ := go c B fs z H vs Q E hg (hr.deeper _) hsp
  have I := inv_start (E := E) (CX := CX0) S hr.hd e0 (many _ _ _ _ hsp) r y
  refine ⟨nl.keeps y.toInCall.keep, codeAny_func (wpAny_mono (ht.nox.run [] z1 (start N vs) H _ I hq) (fun fl z2 hz => ?_) fun _ _ hz => hz)⟩
  cases fl with
  | next =>
    obtain ⟨σ2, H2, J, q⟩ := hz
    exact ⟨.non, H2, J.os, J.bare, J.base, J.hok, rfl, q⟩
  | ret u =>
    obtain ⟨v, σ2, H2, J, rv, q⟩ := hz
    exact ⟨v, H2, J.os, J.bare, J.base, J.hok, rv, q⟩
  | brk => exact hz.choose_spec.choose_spec.2.elim
  | cont => exact hz.choose_spec.choose_spec.2.elim
end
section
variable {X : Cx} {k : Nat} {x : Str} {ps : List Str} {sp : L2.Sp} {e : Expr} {es : List Expr} {t : TA} {p pos : Pos}
theorem pe_ownG (c : CalG X.prog X.w X.K X.mg X.base k x ps sp) (hu : X.A.guards = some []) (hr : Room k X.A) (hg : Gl X x) (ha : PA X (e :: es) t) (hdb : (x == ("__debug__" : Str)) = false := by decide)
    (he : starEach (e :: es) X.env = (false, eval e X.env) :: starEach es X.env := by rfl) (hpl : (backTo pos (starEach es X.env)).any (·.1) = false := by rfl) : PE X (.Call (.Name x p) (e :: es) [] pos) (tCall sp [] E0 t) := by
  obtain ⟨f, fd, F, m, kp, b⟩ := c.ex
  refine ⟨fun pins z σ H Q I h => ?_⟩
  refine wpAny_Call_Name_kw (ld_glob I hg m (PySem.W.callWith_K (h₀ := X.base) I.ok.mod.kin kp (thn (ha.run pos pins z σ H _ I h) fun us z1 ⟨vs, H1, J, r, q⟩ => ⟨J.kIn, ?_⟩) he hpl) hdb)
  have q0 : sp vs H1 Q E0 := by
    have q1 : sp (vs ++ []) H1 Q E0 := q
    rwa [List.append_nil] at q1
  have eq : us ++ [] = us := List.append_nil us
  have hb := b z1 us J.kIn (by rw [eq, ← r.length]; exact F.many _ _ _ _ q0)
  rw [eq] at hb
  refine wpAny_call (codeAny_mono (F.goes X.A X.stack z1 H1 ⟨us, []⟩ us vs Q E0 hu hr J.env0 hb r q0) fun res z2 hz => ?_)
  cases res with
  | error ex => exact pass0 pins σ H1 z1 ex z2 J hz
  | ok fl =>
    cases fl with
    | ret u => exact J.after hz
    | next => exact hz.elim
    | brk => exact hz.elim
    | cont => exact hz.elim
/-- repr of a list or a tuple of data -/
def rRepr (K : PySem.W.Frag) : List V → Hp → VK → Prop := fun xs H Q => ∃ (a : Addr) (d : PyData), xs = [.ref a] ∧ Dp K H (.ref a) d ∧ d.showable = true ∧ d.hasDict = false ∧ d.shown.length ≤ sizeLine ∧ d.depth ≤ 60 ∧ Q (.str d.shown) H
theorem call_repr (hu : X.A.guards = some []) (hr : Room k X.A) : CallR X (.builtin "repr") (rRepr X.K) := by
  intro pins z σ H xs us Q I r h
  obtain ⟨a, d, rfl, hd, h1, h2, h3, h4, q⟩ := h
  cases r with
  | cons ra rr =>
    cases rr
    obtain ⟨as, R⟩ := Dp.reads I d _ _ hd ra
    cases ra
    have := hr.units
    exact repr_of_reads' R h1 (PyData.noDict_hsm h2) hu (by omega) (fun _ _ e => e) (fun h' u tk hk => ⟨.str d.shown, H, I.kept (t' := tk) hk, ⟨u, rfl⟩, q⟩) h3
end
theorem show_ints : ∀ ns : List Int, (∀ n ∈ ns, n.natAbs.log2 < 60) → PyData.showableAll (ns.map PyData.int) = true ∧ PyData.leavesShortAll 61 (ns.map PyData.int) = true ∧ PyData.weightAll (ns.map PyData.int) ≤ 61 * ns.length
  | [], _ => ⟨rfl, rfl, Nat.zero_le _⟩
  | n :: ns, h => by
    obtain ⟨h1, h2, h3⟩ := show_ints ns fun m hm => h m (List.mem_cons_of_mem _ hm)
    have h0 := h n List.mem_cons_self
    refine ⟨?_, ?_, ?_⟩
    · rw [List.map_cons, PyData.showableAll, h1, PyData.showable, decide_eq_true (by omega)]
      rfl
    · rw [List.map_cons, PyData.leavesShortAll, h2, PyData.leavesShort]
      have e : (PyData.shown (.int n)).length ≤ 61 := by
        show (Str.ofString (toString n)).length ≤ 61
        rw [PySem.ofString_length]
        exact int_text_length_le (k := 60) (by decide) h0
      rw [decide_eq_true e]
      rfl
    · rw [List.map_cons, PyData.weightAll, PyData.weight, List.length_cons]
      split <;> omega
theorem log_small {n : Int} (h1 : -1000000000000000 ≤ n) (h2 : n ≤ 1000000000000000) : n.natAbs.log2 < 60 := by
  by_cases h0 : n.natAbs = 0
  · rw [h0]; decide
  · exact (Nat.log2_lt h0).mpr (by omega)
theorem shown_ints {ns : List Int} (hl : ns.length ≤ 1000) (h : ∀ n ∈ ns, n.natAbs.log2 < 60) : (di ns).showable = true ∧ (di ns).hasDict = false ∧ (di ns).shown.length ≤ sizeLine ∧ (di ns).depth ≤ 60 := by
  obtain ⟨h1, h2, h3⟩ := show_ints ns h
  refine ⟨?_, ?_, ?_, ?_⟩
  · rw [PyData.showable]; exact h1
  · exact PyData.hasDict_of_canLay _ (by rw [PyData.canLay0]; exact lay_ints ns)
  · have := PyData.shown_le 61 (by decide) (di ns) (by rw [PyData.leavesShort]; exact h2)
    rw [PyData.weight] at this
    have e : sizeLine = 16777216 := by decide
    omega
  · rw [PyData.depth, dep_ints]; decide
theorem repr_ints {K : PySem.W.Frag} {p : Addr} {ns : List Int} {H : Hp} {Q : VK} (h : SqL K H p (ns.map V.int)) (hl : ns.length ≤ 1000) (hb : ∀ n ∈ ns, n.natAbs.log2 < 60) (q : Q (.str (di ns).shown) H) : rRepr K [.ref p] H Q := by
  obtain ⟨h1, h2, h3, h4⟩ := shown_ints hl hb
  exact ⟨p, di ns, rfl, dp_ints h, h1, h2, h3, h4, q⟩
section
variable {P : Program} {w : World} {K : PySem.W.Frag} {mg mb : Str → Option Value} {k : Nat} {fa a : Addr} {fd : FuncData} {x : Str} {sp : L2.Sp} {z : Shared} {us : List Value} {ns : List Int}
/-- the outcome that a law wants of its call -/
def Held (z : Shared) : Result → Shared → Prop := fun r z2 => r = .ok (.ret (.bool true)) ∧ OldK z.heap z2.heap ∧ z2.os = z.os ∧ AllBare z2.gens
/-- from the heap in which u alone is tracked, at the script's place (or nothing) -/
theorem held_of {u : Option HO} (hu : ∀ v, u = some v → K.lookup a = none ∧ v = .frz { cls := .type "list", data := .seq us.toArray } (.lst (ns.map V.int)))
    (kin : K.In z.heap) (g : z.heap.Ns mainGlobals mg) (bn : z.heap.Ns builtinsNs mb) (bt : ∀ x : Str, x ≠ "__name__" → mb x = bootBuiltins x) (nl : z.heap.NoLimit) (gs : z.gens = #[])
    (at_ : z.heap.get? a = some { cls := .type "list", data := .seq us.toArray }) (rv : Vals (ns.map V.int) us) (len : ns.length ≤ sizeLine) (hr : Room k callerA)
    (F : ∀ base : Heap, K.In base → base.Ns mainGlobals mg → FnG P w K mg base k fa fd [x] sp) (bd : ∀ (s : Shared) (v : Value), BindsTo s fd ⟨[v], []⟩ [(x, v)])
    (hs : SqL K (fun b => if b = a then u else none) a (ns.map V.int)) (want : ∀ H : Hp, SqL K H a (ns.map V.int) → sp [.ref a] H (fun v _ => v = .bl true) fun _ _ _ => False) :
    codeAny (model P w) callerA (.call (.ref fa) ⟨[.ref a], []⟩) (Held z) z := by
  generalize hT : (fun b => if b = a then u else none : Hp) = T at hs
  have only : ∀ {b : Addr} {v : HO}, T b = some v → b = a ∧ u = some v := fun {b v} e => by
    rw [← hT] at e
    by_cases n : b = a
    · exact ⟨n, (if_pos n).symm.trans e⟩
    · exact absurd ((if_neg n).symm.trans e) (fun z => nomatch z)
  have off : ∀ {b : Addr} {o : Obj}, z.heap.get? b = some o → (∀ es, o.data ≠ .seq us.toArray es) → T b = none := fun {b o} e d => by
    cases q : T b with
    | none => rfl
    | some v =>
      obtain ⟨rfl, _⟩ := only q
      rw [at_] at e
      exact absurd (congrArg Obj.data (Option.some.inj e)).symm (d _)
  have names : ∀ {b : Addr} {m : Str → Option Value}, z.heap.Ns b m → (hidT z.heap T).Ns b m := fun {b m} n => by
    obtain ⟨o, es, ep, e, d, r⟩ := n
    exact ⟨o, es, ep, hidT_get e (off e fun es' q => by rw [d] at q; cases q), d, r⟩
  have kin2 : K.In (hidT z.heap T) := fun b o e => hidT_get (kin b o e) (by
    cases q : T b with
    | none => rfl
    | some v =>
      obtain ⟨rfl, q2⟩ := only q
      rw [(hu v q2).1] at e
      cases e)
  have ok : HOk P w T z.heap := fun b v e => by
    obtain ⟨rfl, q2⟩ := only e
    obtain ⟨_, rfl⟩ := hu v q2
    exact ⟨at_, by rw [List.length_map]; exact len, us, _, rv, at_⟩
  obtain ⟨mc, c1, c2⟩ := nl
  have e0 : Env0 P w K mg (hidT z.heap T) callerA [] z T := ⟨rfl, ⟨kin2, names g, ⟨mb, names bn, bt⟩, ⟨mc, names c1, c2⟩⟩, fun b o e => of_hidT e, Nat.le_of_eq (hidT_size _ _), trivial, (fun b hb => nomatch hb), ok, .of_eq gs⟩
  refine codeAny_mono ((F _ kin2 (names g)).goes callerA [] z T ⟨[.ref a], []⟩ [.ref a] [.ref a] _ _ rfl hr e0 (bd z (.ref a)) (.cons rfl .nil) (want T hs)) fun res z2 hz => ?_
  match res, hz with
  | .error e, hz => exact hz.elim
  | .ok .next, hz => exact hz.elim
  | .ok .brk, hz => exact hz.elim
  | .ok .cont, hz => exact hz.elim
  | .ok (.ret v), hz =>
    obtain ⟨y, T2, os, bare, un, ok2, ry, q⟩ := hz
    have q' : y = .bl true := q
    subst q'
    obtain rfl : v = Value.bool true := ry
    refine ⟨rfl, OldK.of_keep fun b o e => ?_, os, bare⟩
    cases q2 : T b with
    | none => exact un.keep b o e q2 (fun y => nomatch y) (fun y => nomatch y)
    | some v2 =>
      obtain ⟨rfl, q3⟩ := only q2
      obtain ⟨_, rfl⟩ := hu v2 q3
      rw [at_] at e
      cases e
      exact (ok2 b _ (un.frzs b _ _ q2)).1
end
/-- the head of a law whose def asks repr -/
theorem walkG {l : PySem.W.OpenLaw} {n k : Nat} {q : Program} {loose : List Str} {XP : (Str → Option Value) → Heap → Prop} {YP : World → Heap → Prop} {d : DefRec} {K : Params → PySem.W.Frag} {sp : PySem.W.Frag → L2.Sp} {x : Str} (most : l.most = some n) (le : n ≤ sizeLine)
    (nod : d.params.defaults = []) (hr : Room k callerA) (part : ∀ (w : World) (h : Heap), YP w h → (K w.params).In h)
    (F : ∀ (w : World) (mg : Str → Option Value) (fa : Addr) (h : Heap), (K w.params).In h → h.Ns mainGlobals mg → mg d.name = some (.ref fa) →
      ∃ fd : FuncData, (∀ (s : Shared) (v : Value), BindsTo s fd ⟨[v], []⟩ [(x, v)]) ∧ ∀ base : Heap, (K w.params).In base → base.Ns mainGlobals mg → FnG l.prog w (K w.params) mg base k fa fd [x] (sp (K w.params)))
    (want : ∀ (K : PySem.W.Frag) (H : Hp) (a : Addr) (ns : List Int), ns.length ≤ n → SqL K H a (ns.map V.int) → sp K [.ref a] H (fun v _ => v = .bl true) fun _ _ _ => False) :
    PySem.W.WalkO q loose XP YP l.row.toRowW d [] (fun f vs => PySem.call f vs) := by
  refine Att.attach_call most nod fun w s0 z mg mb fa o pm cd doc a us ns G Y ho hd hcd hmg at_ hi hl gs => ?_
  have kin := part w _ Y
  obtain ⟨fd, bd, FF⟩ := F w mg fa _ kin G.T.g hmg
  have rv := vals_ints hi
  have len : ns.length ≤ sizeLine := Nat.le_trans hl le
  cases hk : (K w.params).lookup a with
  | some o2 =>
    have e := kin a o2 hk
    rw [at_] at e
    cases e
    refine held_of (u := none) (fun _ e => nomatch e) kin G.T.g G.T.b G.T.builtins G.T.nolimit gs at_ rv len hr FF bd (.inr ⟨_, us.toArray, _, hk, rfl, rfl, rfl, ?_, by simpa using rv⟩) fun H h => want _ H a ns hl h
    rw [List.size_toArray, hi.length]
    exact len
  | none =>
    exact held_of (u := some (.frz { cls := .type "list", data := .seq us.toArray } (.lst (ns.map V.int)))) (fun v e => ⟨hk, (Option.some.inj e).symm⟩) kin G.T.g G.T.b G.T.builtins G.T.nolimit gs at_ rv len hr FF bd (.inl (.inr ⟨_, if_pos rfl⟩)) fun H h => want _ H a ns hl h
end Gd
namespace Sp
open PySem L2
/-! ### rows joined -/
def spDue2 (K : PySem.W.Frag) : L2.Sp := fun vs H Q _ => ∃ (p q : Addr) (ns ms : List Int), vs = [.ref p, .ref q] ∧ SqL K H p (ns.map V.int) ∧ SqL K H q (ms.map V.int) ∧ ns.length ≤ 1000 ∧ ms.length ≤ 1000 ∧ ns.Pairwise (· ≤ ·) ∧ ms.Pairwise (· ≤ ·) ∧
  ∀ (r : Addr) (js : List Int) (H' : Hp), Same H H' → H r = none → H' r = some (.lst (js.map V.int)) → js.Perm (ns ++ ms) → js.Pairwise (· ≤ ·) → Q (.ref r) H'
def spSame2 (K : PySem.W.Frag) : L2.Sp := fun vs H Q _ => ∃ (p q : Addr) (ns : List Int), vs = [.ref p, .ref q] ∧ SqL K H p (ns.map V.int) ∧ SqL K H q (ns.map V.int) ∧ ns.length ≤ 1000 ∧ (∀ n ∈ ns, n.natAbs.log2 < 60) ∧ Q (.bl true) H
/-- two lists that are emptied from behind into a third -/
structure Left (H0 H : Hp) (p q l f : Addr) (as bs fs : List Int) : Prop where
  same : Same H0 H
  hp : H p = some (.lst (as.map V.int))
  hq : H q = some (.lst (bs.map V.int))
  hl : H l = some (.lst [.ref p, .ref q])
  hf : H f = some (.lst (fs.map V.int))
structure Off4 (H0 : Hp) (p q l f : Addr) : Prop where
  np : H0 p = none
  nq : H0 q = none
  nf : H0 f = none
  pq : p ≠ q
  pl : p ≠ l
  pf : p ≠ f
  ql : q ≠ l
  qf : q ≠ f
  lf : l ≠ f
theorem Left.up {H0 H H' : Hp} {p q l f : Addr} {as bs fs : List Int} (a : Left H0 H p q l f as bs fs) (s : Same H H') : Left H0 H' p q l f as bs fs := ⟨a.same.trans s, s _ _ a.hp, s _ _ a.hq, s _ _ a.hl, s _ _ a.hf⟩
theorem same_set {H0 H : Hp} {p : Addr} {o : HO} (n : H0 p = none) (s : Same H0 H) : Same H0 (upd H p o) := fun c x e => by
  rw [upd_ne (ne_of_none e n)]
  exact s c x e
theorem Left.popP {H0 H : Hp} {p q l f : Addr} {as bs fs : List Int} (a : Left H0 H p q l f as bs fs) (d : Off4 H0 p q l f) : Left H0 (upd H p (.lst (as.map V.int).dropLast)) p q l f as.dropLast bs fs :=
  ⟨same_set d.np a.same, by rw [upd_same, List.map_dropLast], by rw [upd_ne d.pq.symm]; exact a.hq, by rw [upd_ne d.pl.symm]; exact a.hl, by rw [upd_ne d.pf.symm]; exact a.hf⟩
theorem Left.popQ {H0 H : Hp} {p q l f : Addr} {as bs fs : List Int} (a : Left H0 H p q l f as bs fs) (d : Off4 H0 p q l f) : Left H0 (upd H q (.lst (bs.map V.int).dropLast)) p q l f as bs.dropLast fs :=
  ⟨same_set d.nq a.same, by rw [upd_ne d.pq]; exact a.hp, by rw [upd_same, List.map_dropLast], by rw [upd_ne d.ql.symm]; exact a.hl, by rw [upd_ne d.qf.symm]; exact a.hf⟩
theorem Left.put {H0 H : Hp} {p q l f : Addr} {as bs fs : List Int} (a : Left H0 H p q l f as bs fs) (d : Off4 H0 p q l f) (y : Int) : Left H0 (upd H f (.lst (fs.map V.int ++ [V.int y]))) p q l f as bs (fs ++ [y]) :=
  ⟨same_set d.nf a.same, by rw [upd_ne d.pf]; exact a.hp, by rw [upd_ne d.qf]; exact a.hq, by rw [upd_ne d.lf]; exact a.hl, by rw [upd_same, map_app1]⟩
/-- what is emptied so far: sorted from behind, none of it lesser than what is left -/
structure Merge (ns ms as bs fs : List Int) : Prop where
  pm : (as ++ bs ++ fs).Perm (ns ++ ms)
  sa : as.Pairwise (· ≤ ·)
  sb : bs.Pairwise (· ≤ ·)
  sf : fs.Pairwise (fun x y => y ≤ x)
  la : ∀ x ∈ as, ∀ y ∈ fs, x ≤ y
  lb : ∀ x ∈ bs, ∀ y ∈ fs, x ≤ y
theorem snoc_of {as : List Int} {y : Int} (h : as[as.length - 1]? = some y) : as = as.dropLast ++ [y] := by
  have hl := (List.getElem?_eq_some_iff.mp h).1
  have hn : as ≠ [] := by intro z; rw [z] at hl; simp at hl
  have e := (List.getElem?_eq_some_iff.mp h).2
  rw [← List.getLast_eq_getElem hn] at e
  rw [← e]
  exact (List.dropLast_concat_getLast hn).symm
theorem below_last {as : List Int} {y : Int} (s : as.Pairwise (· ≤ ·)) (h : as[as.length - 1]? = some y) : ∀ x ∈ as, x ≤ y := by
  rw [snoc_of h] at s ⊢
  intro x hx
  rcases List.mem_append.mp hx with z | z
  · exact (List.pairwise_append.mp s).2.2 x z y (List.mem_singleton.mpr rfl)
  · rw [List.mem_singleton.mp z]
    exact Int.le_refl _
theorem Merge.popA {ns ms as bs fs : List Int} {y : Int} (m : Merge ns ms as bs fs) (h : as[as.length - 1]? = some y) (hb : ∀ x ∈ bs, x ≤ y) : Merge ns ms as.dropLast bs (fs ++ [y]) := by
  have e := snoc_of h
  have ya : y ∈ as := by rw [e]; simp
  have sub : ∀ x ∈ as.dropLast, x ∈ as := fun x hx => List.dropLast_subset as hx
  refine ⟨?_, m.sa.sublist (List.dropLast_sublist as), m.sb, List.pairwise_append.mpr ⟨m.sf, List.pairwise_singleton _ _, fun z hz w hw => ?_⟩, fun x hx z hz => ?_, fun x hx z hz => ?_⟩
  · refine List.Perm.trans ?_ m.pm
    refine (List.perm_iff_count).mpr fun z => ?_
    have c : List.count z as = List.count z as.dropLast + List.count z [y] := by rw [← List.count_append, ← e]
    simp only [List.count_append]
    omega
  · rw [List.mem_singleton.mp hw]; exact m.la y ya z hz
  · rcases List.mem_append.mp hz with k | k
    · exact m.la x (sub x hx) z k
    · rw [List.mem_singleton.mp k]; exact below_last m.sa h x (sub x hx)
  · rcases List.mem_append.mp hz with k | k
    · exact m.lb x hx z k
    · rw [List.mem_singleton.mp k]; exact hb x hx
theorem Merge.popB {ns ms as bs fs : List Int} {y : Int} (m : Merge ns ms as bs fs) (h : bs[bs.length - 1]? = some y) (ha : ∀ x ∈ as, x ≤ y) : Merge ns ms as bs.dropLast (fs ++ [y]) := by
  have e := snoc_of h
  have yb : y ∈ bs := by rw [e]; simp
  have sub : ∀ x ∈ bs.dropLast, x ∈ bs := fun x hx => List.dropLast_subset bs hx
  refine ⟨?_, m.sa, m.sb.sublist (List.dropLast_sublist bs), List.pairwise_append.mpr ⟨m.sf, List.pairwise_singleton _ _, fun z hz w hw => ?_⟩, fun x hx z hz => ?_, fun x hx z hz => ?_⟩
  · refine List.Perm.trans ?_ m.pm
    refine (List.perm_iff_count).mpr fun z => ?_
    have c : List.count z bs = List.count z bs.dropLast + List.count z [y] := by rw [← List.count_append, ← e]
    simp only [List.count_append]
    omega
  · rw [List.mem_singleton.mp hw]; exact m.lb y yb z hz
  · rcases List.mem_append.mp hz with k | k
    · exact m.la x hx z k
    · rw [List.mem_singleton.mp k]; exact ha x hx
  · rcases List.mem_append.mp hz with k | k
    · exact m.lb x (sub x hx) z k
    · rw [List.mem_singleton.mp k]; exact below_last m.sb h x (sub x hx)
theorem Merge.begin {ns ms : List Int} (h1 : ns.Pairwise (· ≤ ·)) (h2 : ms.Pairwise (· ≤ ·)) : Merge ns ms ns ms [] := ⟨by rw [List.append_nil], h1, h2, List.Pairwise.nil, (fun _ _ _ h => nomatch h), (fun _ _ _ h => nomatch h)⟩
theorem Merge.ends {ns ms fs : List Int} (m : Merge ns ms [] [] fs) : fs.reverse.Perm (ns ++ ms) ∧ fs.reverse.Pairwise (· ≤ ·) := ⟨(List.reverse_perm fs).trans m.pm, List.pairwise_reverse.mpr m.sf⟩
theorem last_at {as : List Int} (h : as ≠ []) : ∃ y, as[as.length - 1]? = some y := ⟨_, List.getElem?_eq_getElem (by have := List.length_pos_iff.mpr h; omega)⟩
theorem at_last {as : List Int} {y : Int} (h : as[as.length - 1]? = some y) : atI (as.map V.int) (-1) = some (.int y) := by
  have hl := (List.getElem?_eq_some_iff.mp h).1
  unfold atI
  rw [List.length_map]
  have e : ixN as.length (-1) = some (as.length - 1) := by
    unfold ixN
    rw [if_neg (by omega), if_pos (by omega)]
    congr 1
    omega
  rw [e]
  show (as.map V.int)[as.length - 1]? = _
  rw [List.getElem?_map, h]
  rfl
theorem map_last {as : List Int} {y : Int} (h : as[as.length - 1]? = some y) : (as.map V.int)[(as.map V.int).length - 1]? = some (.int y) := by
  rw [List.length_map, List.getElem?_map, h]
  rfl
/-- two rows in a pair, both new -/
def spTwo2 : L2.Sp := fun vs H Q _ => ∃ (a : Addr) (b : Bool), vs = [.ref a, .bl b] ∧ HandAt H a ∧
  ∀ (t p q : Addr) (ns ms : List Int) (H' : Hp), Ext a H H' → H' t = some (.tup [.ref p, .ref q]) → t ≠ a → RowAt H' a p ns → RowAt H' a q ms → H p = none → H q = none → Q (.ref t) H'
/-- all stays but what stands at l -/
def Kp (l : Addr) (H H' : Hp) : Prop := ∀ b o, H b = some o → b ≠ l → H' b = some o
theorem Kp.refl {l : Addr} {H : Hp} : Kp l H H := fun _ _ h _ => h
theorem Kp.trans {l : Addr} {H H1 H2 : Hp} (a : Kp l H H1) (b : Kp l H1 H2) : Kp l H H2 := fun c o h n => b c o (a c o h n) n
theorem Kp.same {l : Addr} {H H' : Hp} (s : Same H H') : Kp l H H' := fun c o h _ => s c o h
theorem Kp.set {l : Addr} {H : Hp} {o : HO} : Kp l H (upd H l o) := fun c x h n => by rw [upd_ne n]; exact h
theorem Kp.made {l : Addr} {H H1 H2 : Hp} (s : Same H H1) (k : Kp l H1 H2) (n : H l = none) : Same H H2 := fun c o h => k c o (s c o h) (ne_of_none h n)
/-- both lists of a pair of lists are alike -/
def Ent (H : Hp) (l e : Addr) : Prop := ∃ (u v : Addr) (js : List Int), e ≠ l ∧ u ≠ l ∧ v ≠ l ∧ H e = some (.lst [.ref u, .ref v]) ∧ H u = some (.lst (js.map V.int)) ∧ H v = some (.lst (js.map V.int)) ∧ js.length ≤ 1000 ∧ ∀ n ∈ js, n.natAbs.log2 < 60
theorem Ent.up {H H' : Hp} {l e : Addr} (k : Kp l H H') (x : Ent H l e) : Ent H' l e := by
  obtain ⟨u, v, js, n1, n2, n3, e1, e2, e3, r⟩ := x
  exact ⟨u, v, js, n1, n2, n3, k _ _ e1 n1, k _ _ e2 n2, k _ _ e3 n3, r⟩
/-- within a comprehension: the written part by its own name -/
theorem ix_listK {X : Cx} {K : PySem.W.Frag} (hK : X.K = K) : IxR X (rIxL K) := hK ▸ ix_list
end Sp

/-! a lambda of one name, handed to a def as its fourth argument. -/
namespace Lm
open PySem PySem.Spec PyProof.Rows L2 LamX NdefX
/-- a lambda's words, as a function of the layer; its body is told apart -/
abbrev lamF (qual : Str) (params : Arguments) (scope : Scope) (cl : List (Str × Addr)) (c : Addr) : NF := ⟨"<lambda>", qual, params, [], scope, cl, c⟩
section
variable {P : Program} {w : World} {K : PySem.W.Frag} {mg : Str → Option Value} {base : Heap} {N fr : List Str} {F : NF} {y : Str} {body : Expr} {f : Addr} {pm ctv u : Value} {A : Around} {outer : List Env} {s : Shared} {H : Hp} {ws : List (Option V)} {v : V} {tb : TE} {Q : VK} {k : Nat}
/-- it runs -/
theorem run_lam (S : NScope N [y] fr F.scope) (hb : bindArgs (PySem.W.kla_fn "<lambda>" F.qual F.params body F.scope F.cl pm (.ref F.c) ctv) ⟨[u], []⟩ = pure [(y, u)]) (room : Room (k + 1) A) (e0 : Env0 P w K mg base A outer s H)
    (at_ : s.heap.get? f = some (PySem.W.kla_obj "<lambda>" F.qual F.params body F.scope F.cl pm F.c ctv)) (cd : H F.c = some (CodeO F.c F.qual)) (C : CellsAt F.cl fr ws s.heap H) (rv : RelV v u)
    (go : Room k (A.deeper (envF F f s.heap.objs.size)) → PE (ncx L2.CX0 P w K mg base N F f A outer s H L2.E0) body tb) (q : tb (startF N [v] ws) H Q) :
    codeAny (model P w) A (.call (.ref f) ⟨[u], []⟩) (CR L2.CX0 outer P w H s Q L2.E0) s := by
  have nl : s.heap.NoLimit := e0.mod.nolimit.keeps fun b o e => (e0.bs b o e).1
  refine PySem.W.kla_callFunE room.depth at_ rfl S.co S.gen rfl (codeO_at e0.hok cd) ?_
  rw [hb]
  refine wpAny_pure (wpAny_newFunctionEnv (fun z hz => S.nocell z hz) (fun z hz => ?_) (fun h1 hn hs => ⟨nl.fresh _ hs, ?_⟩) S.kind)
  · obtain rfl : z = (y, u) := List.mem_singleton.mp hz
    exact S.par y (List.mem_singleton.mpr rfl)
  have keep : ∀ b o, s.heap.get? b = some o → h1.get? b = some o := fun b o e => hs.extBut b o (Nat.ne_of_lt (Heap.lt_size e)) (Heap.get?_push_of_some _ e)
  have J := inv_startN (E := L2.E0) (CX := L2.CX0) (f := f) (tk := s.toks + [(y, u)].length) S room.hd e0 (vs := [v]) (us := [u]) rfl (.cons rv .nil) C hn keep
  refine PySem.W.kla_codeExpr (wpAny_mono ((go (room.deeper _)).run [] _ _ H Q J q) (fun a z hz => ?_) fun _ _ hz => hz)
  obtain ⟨a', H2, J2, ra, q2⟩ := hz
  exact ⟨a', H2, J2.os, J2.bare, J2.base, J2.hok, ra, q2⟩
end
section
variable {X : Cx} {pins : List (Addr × Obj)} {σ : L2.St} {H : Hp} {s : Shared}
/-- what captured cells hold stays, whatever the running def's callers' frames are -/
theorem later {cl : List (Str × Addr)} {fr : List Str} {ws : List (Option V)} (C : CellsAt cl fr ws X.s_0.heap X.H_0) (hx : ∀ y c, cl.lookup y = some c → c ∉ X.ex) (I : Inv X pins σ H s) : CellsAt cl fr ws s.heap H := by
  have stay : ∀ y c, cl.lookup y = some c → ∀ v, X.s_0.heap.IsCell c v → s.heap.IsCell c v := fun y c e v z => by
    obtain ⟨o, ho, hd⟩ := z
    obtain ⟨sl, q⟩ := I.base.any ho (C.all y c e).1 (hx y c e)
    exact ⟨_, q, hd⟩
  refine ⟨C.len, fun y c e => ?_, C.inj, fun i y e => ?_⟩
  · obtain ⟨n, v, z⟩ := C.all y c e
    obtain ⟨o, ho, hd⟩ := id z
    exact ⟨I.base.free c o ho n (hx y c e), v, stay y c e v z⟩
  · obtain ⟨c, hc, hv⟩ := C.has i y e
    refine ⟨c, hc, fun v ev => ?_⟩
    obtain ⟨u, r, z⟩ := hv v ev
    exact ⟨u, r, stay y c hc _ z⟩
/-- a(e), in the def that got the lambda as its name a: Z is that def's context, entered at s -/
theorem pe_act {Ng N fr : List Str} {qg : Str} {sg : Scope} {g f : Addr} {cdg pm ctv : Value} {F : NF} {y a : Str} {body e : Expr} {ws : List (Option V)} {k i : Nat} {te tb : TE} {p1 p2 : Pos} (S : NScope N [y] fr F.scope)
    (hb : ∀ (pm ctv u : Value), bindArgs (PySem.W.kla_fn "<lambda>" F.qual F.params body F.scope F.cl pm (.ref F.c) ctv) ⟨[u], []⟩ = pure [(y, u)]) (at_ : s.heap.get? f = some (PySem.W.kla_obj "<lambda>" F.qual F.params body F.scope F.cl pm F.c ctv)) (off : H f = none) (nfr : f ∉ frs X.stack)
    (C : CellsAt F.cl fr ws s.heap H) (room : Room (k + 1) (X.A.deeper (envOfC qg sg s.heap.objs.size g cdg)))
    (go : ∀ (A : Around) (outer : List Env) (s : Shared) (H : Hp), Room k (A.deeper (envF F f s.heap.objs.size)) → PE (ncx L2.CX0 X.prog X.w X.K X.mg X.base N F f A outer s H L2.E0) body tb)
    (he : PE (cxOf L2.CX0 X.prog X.w X.K X.mg X.base Ng qg sg g cdg X.A X.stack s H L2.E0).nox e te) (hN : Ng[i]? = some a) (hv : Vis sg a) (h1 : (a == ("__debug__" : Str)) = false := by decide) (h2 : (a == ("__classdict__" : Str)) = false := by decide)
    (hs : starEach [e] (cxOf L2.CX0 X.prog X.w X.K X.mg X.base Ng qg sg g cdg X.A X.stack s H L2.E0).nox.env = (false, eval e (cxOf L2.CX0 X.prog X.w X.K X.mg X.base Ng qg sg g cdg X.A X.stack s H L2.E0).nox.env) :: starEach [] (cxOf L2.CX0 X.prog X.w X.K X.mg X.base Ng qg sg g cdg X.A X.stack s H L2.E0).nox.env := by rfl) :
    PE (cxOf L2.CX0 X.prog X.w X.K X.mg X.base Ng qg sg g cdg X.A X.stack s H L2.E0).nox (.Call (.Name a p1) [e] [] p2)
      (fun σZ HZ Q => σZ[i]? = some (some (.ref f)) ∧ te σZ HZ fun v H2 => H2 F.c = some (CodeO F.c F.qual) ∧ tb (startF N [v] ws) H2 Q) := by
  refine ⟨fun pz z σZ HZ Q J h => ?_⟩
  obtain ⟨slot, h⟩ := h
  refine wpAny_Call_Name_kw (thn ((pe_var (pos := p1) (i := i) hN hv h1 h2).run pz z σZ HZ (fun v H1 => v = .ref f ∧ H1 = HZ) J ⟨.ref f, slot, rfl, rfl⟩) fun u z1 ⟨v, H1, J1, r1, q1⟩ => ?_)
  obtain ⟨rfl, rfl⟩ := q1
  obtain rfl : u = Value.ref f := r1
  have stays : ∀ {pz : List (Addr × Obj)} {σ2 : L2.St} {H2 : Hp} {z2 : Shared}, Inv (cxOf L2.CX0 X.prog X.w X.K X.mg X.base Ng qg sg g cdg X.A X.stack s H L2.E0).nox pz σ2 H2 z2 → z2.heap.get? f = some (PySem.W.kla_obj "<lambda>" F.qual F.params body F.scope F.cl pm F.c ctv) :=
    fun J2 => J2.base.keep f _ at_ off nfr (fun z => nomatch (show f ∈ ([] : List Addr) from z))
  refine PySem.W.callWith_F (first := []) ⟨_, _, _, _, stays J1⟩ (thn ((pa_cons he pa_nil hs).run p2 pz z1 σZ H1 (fun vs H2 => match vs with | [v] => H2 F.c = some (CodeO F.c F.qual) ∧ tb (startF N [v] ws) H2 Q | _ => False) J1 h) fun us z2 ⟨vs, H2, J2, r, hq⟩ => ⟨⟨_, _, _, _, stays J2⟩, ?_⟩) hs (by rfl)
  match r, hq with
  | .cons ra .nil, hq =>
    obtain ⟨hc, hq⟩ := hq
    have C2 : CellsAt F.cl fr ws z2.heap H2 := later (X := (cxOf L2.CX0 X.prog X.w X.K X.mg X.base Ng qg sg g cdg X.A X.stack s H L2.E0).nox) C (fun _ _ _ z => nomatch (show _ ∈ ([] : List Addr) from z)) J2
    refine wpAny_call (codeAny_mono (run_lam (k := k) S (hb pm ctv _) room J2.env0 (stays J2) hc C2 ra (go _ _ _ _) hq) fun res z3 hz => ?_)
    cases res with
    | error ex => exact hz.elim
    | ok fl =>
      cases fl with
      | ret u => exact J2.after hz
      | next => exact hz.elim
      | brk => exact hz.elim
      | cont => exact hz.elim
/-- what a def does with a reading tl of the function that it gets, told of three values -/
abbrev Tell := (V → Hp → VK → Prop) → V → V → V → Hp → VK → Prop
/-- the def that calls what it got under the name a -/
def Gets (P : Program) (w : World) (K : PySem.W.Frag) (mg : Str → Option Value) (base : Heap) (Ng : List Str) (x : Str) (st : Stmt) (g : Addr) (a : Str) (k : Nat) (TT : Tell) : Prop :=
  ∀ (cdg : Value) (A : Around) (outer : List Env) (s : Shared) (H : Hp) (v1 v2 v3 : V) (f : Addr) (Q : VK) (tl : V → Hp → VK → Prop), Room k (A.deeper (envOfC x (defScope st) s.heap.objs.size g cdg)) →
    (∀ (e : Expr) (te : TE) (p1 p2 : Pos), PE (cxOf L2.CX0 P w K mg base Ng x (defScope st) g cdg A outer s H L2.E0).nox e te →
      starEach [e] (cxOf L2.CX0 P w K mg base Ng x (defScope st) g cdg A outer s H L2.E0).nox.env = (false, eval e (cxOf L2.CX0 P w K mg base Ng x (defScope st) g cdg A outer s H L2.E0).nox.env) :: starEach [] (cxOf L2.CX0 P w K mg base Ng x (defScope st) g cdg A outer s H L2.E0).nox.env →
      PE (cxOf L2.CX0 P w K mg base Ng x (defScope st) g cdg A outer s H L2.E0).nox (.Call (.Name a p1) [e] [] p2) (fun σZ HZ Q => σZ[3]? = some (some (.ref f)) ∧ te σZ HZ fun v H2 => tl v H2 Q)) →
    TT tl v1 v2 v3 H Q →
    ∃ t, PSs (cxOf L2.CX0 P w K mg base Ng x (defScope st) g cdg A outer s H L2.E0).nox (defBody st) t ∧ t { nx := fun _ H2 => Q .non H2, rt := Q } (start Ng [v1, v2, v3, .ref f]) H
def tLam4 (T : List (Addr × Str)) (q : Str) (TT : Tell) (N : List Str) (js : List Nat) (t1 t2 t3 tb : TE) : TE := fun σ H Q => t1 σ H fun v1 H1 => t2 σ H1 fun v2 H2 => t3 σ H2 fun v3 H3 => Tabs T H3 ∧
  ∀ (c : Addr) (H4 : Hp), ExtN H3 H4 → Tabs T H4 → H4 c = some (CodeO c q) → TT (fun v H5 Q2 => H5 c = some (CodeO c q) ∧ tb (startF N [v] (js.map (slotAt σ))) H5 Q2) v1 v2 v3 H4 Q
/-- x(e1, e2, e3, lambda y: body) -/
theorem pe_lam4 {T : List (Addr × Str)} {TT : Tell} {x a y : Str} {g c P : Addr} {k : Nat} {st : Stmt} {fdg : FuncData} {Ng N fr : List Str} {js : List Nat} {ps : List Str} {params : Arguments} {body e1 e2 e3 : Expr} {scope : Scope} {t1 t2 t3 tb : TE} {p lpos pos : Pos}
    (Fg : Fun X.K x x st g fdg) (Sg : FnScope Ng ps (defScope st)) (hm : X.mg x = some (.ref g)) (hgl : Gl X x) (hbg : Binds X.K fdg ps []) (hps : ps.length = 4) (hNg : Ng[3]? = some a) (hva : Vis (defScope st) a)
    (hG : Gets X.prog X.w X.K X.mg X.base Ng x st g a (k + 1) TT)
    (TB : TabB X.base X.mg c P) (hcode : X.env.code = .ref c) (hmT : (P, X.env.qual ++ "<lambda>") ∈ T) (hu : ∀ p ∈ T, p.1 = P → p.2 = X.env.qual ++ "<lambda>") (hr : Room (k + 2) X.A)
    (S : NScope N [y] fr scope) (hfree : ∀ y ∈ scope.names, y.2 = .free → X.env.scope.names.lookup y.1 = some .cell ∨ X.env.scope.names.lookup y.1 = some .free) (hfr : ∀ y ∈ fr, (y, NameKind.free) ∈ scope.names) (hjs : js.map (fun j => X.N[j]?) = fr.map some)
    (hdef : defaultsOf params X.env = ([], [])) (hb : ∀ (q : Str) (cl : List (Str × Addr)) (pm cv ctv u : Value), bindArgs (PySem.W.kla_fn "<lambda>" q params body scope cl pm cv ctv) ⟨[u], []⟩ = pure [(y, u)])
    (go : ∀ (q : Str) (cl : List (Str × Addr)) (c f : Addr) (A : Around) (outer : List Env) (s : Shared) (H : Hp), Room k (A.deeper (envF (lamF q params scope cl c) f s.heap.objs.size)) → PE (ncx L2.CX0 X.prog X.w X.K X.mg X.base N (lamF q params scope cl c) f A outer s H L2.E0) body tb)
    (h1 : PE X e1 t1) (h2 : PE X e2 t2) (h3 : PE X e3 t3)
    (hdb : (x == ("__debug__" : Str)) = false := by decide) (hd : (a == ("__debug__" : Str)) = false := by decide) (hcd : (a == ("__classdict__" : Str)) = false := by decide)
    (z1 : starEach [e1, e2, e3, .Lambda params body scope lpos] X.env = (false, eval e1 X.env) :: starEach [e2, e3, .Lambda params body scope lpos] X.env := by rfl) (z2 : starEach [e2, e3, .Lambda params body scope lpos] X.env = (false, eval e2 X.env) :: starEach [e3, .Lambda params body scope lpos] X.env := by rfl)
    (z3 : starEach [e3, .Lambda params body scope lpos] X.env = (false, eval e3 X.env) :: starEach [.Lambda params body scope lpos] X.env := by rfl) (hpl : (backTo pos (starEach [e2, e3, .Lambda params body scope lpos] X.env)).any (·.1) = false := by rfl) :
    PE X (.Call (.Name x p) [e1, e2, e3, .Lambda params body scope lpos] [] pos) (tLam4 T (X.env.qual ++ "<lambda>") TT N js t1 t2 t3 tb) := by
  refine ⟨fun pins s σ H Q I h => ?_⟩
  refine wpAny_Call_Name_kw (ld_glob I hgl hm ?_ hdb)
  refine PySem.W.callWith_K (h₀ := X.base) I.ok.mod.kin Fg.kp ?_ z1 hpl
  rw [z1]
  show wpAny _ _ (spliced ((false, eval e1 X.env) :: backTo pos (starEach [e2, e3, .Lambda params body scope lpos] X.env))) _ _ s
  refine Calls.spliced_cons (thn (h1.run pins s σ H _ I h) fun u1 s1 ⟨v1, H1, I1, r1, h⟩ => ?_)
  rw [z2]
  show wpAny _ _ (spliced ((false, eval e2 X.env) :: backTo pos (starEach [e3, .Lambda params body scope lpos] X.env))) _ _ s1
  refine Calls.spliced_cons (thn (h2.run pins s1 σ H1 _ I1 h) fun u2 s2 ⟨v2, H2, I2, r2, h⟩ => ?_)
  rw [z3]
  show wpAny _ _ (spliced ((false, eval e3 X.env) :: backTo pos (starEach [.Lambda params body scope lpos] X.env))) _ _ s2
  refine Calls.spliced_cons (thn (h3.run pins s2 σ H2 _ I2 h) fun u3 s3 ⟨v3, H3, I3, r3, hT, h⟩ => ?_)
  show wpAny _ _ (spliced ((false, eval (.Lambda params body scope lpos) X.env) :: backTo pos (starEach [] X.env))) _ _ s3
  have hfree' : ∀ y ∈ scope.names, y.2 = .free → ∃ c, X.env.cells.lookup y.1 = some c := fun y hy e => (hfree y hy e).elim (fun z => I3.ok.has _ (.inl z)) fun z => I3.ok.has _ (.inr z)
  refine Calls.spliced_cons (lam_make2 I3 TB hcode hmT hu hT hdef hfree' fun f c' pm ctv H4 s4 I4 x4 T4 at_ off nfr hc => ?_)
  refine Calls.spliced_nil ⟨I4.kIn, ?_⟩
  have caps := Caps.made (fr := fr) (js := js) I4.ok hfree hfr hjs
  have C := cells_of I4 caps
  obtain ⟨oc, od, kV, doc, pmg, an, cdv, ct, osl, rfl, lk, hcd2⟩ := Fg.ex
  have rc : codeAny (model X.prog X.w) X.A (.call (.ref g) ⟨[u1, u2, u3, .ref f], []⟩) (CR L2.CX0 X.stack X.prog X.w H4 s4 Q L2.E0) s4 := by
    have bd := hbg s4 [u1, u2, u3, .ref f] I4.kIn (by rw [hps]; rfl)
    refine run_ofS (k := k + 1) (N := Ng) (ps := ps) (us := [u1, u2, u3, .ref f]) (vs := [v1, v2, v3, .ref f]) lk hcd2 Sg hr I4.env0 bd (.cons r1 (.cons r2 (.cons r3 (.cons rfl .nil)))) (by rw [hps]; rfl) fun hr' => ?_
    obtain ⟨t', ht', hq'⟩ := hG cdv X.A X.stack s4 H4 v1 v2 v3 f Q (fun v H5 Q2 => H5 c' = some (CodeO c' (X.env.qual ++ "<lambda>")) ∧ tb (startF N [v] (js.map (slotAt σ))) H5 Q2) hr'
      (fun e te p1 p2 he hs => pe_act (F := lamF (X.env.qual ++ "<lambda>") params scope (cloFrom X.env.cells scope.names []) c') (i := 3) S (fun pm ctv u => hb _ _ _ _ _ _) at_ off nfr C hr' (fun A outer s H hr2 => go _ _ _ _ A outer s H hr2) he hNg hva hd hcd hs) (h c' H4 x4 T4 hc)
    exact ⟨t', ht'.nox, hq'⟩
  refine wpAny_call (codeAny_mono rc fun r s2 hq => ?_)
  cases r with
  | error e => exact hq.elim
  | ok fl =>
    cases fl with
    | ret u => exact I4.after hq
    | next => exact hq.elim
    | brk => exact hq.elim
    | cont => exact hq.elim
end
/-- a def of the text whose code object stands at c -/
structure FunC (K : PySem.W.Frag) (x qual : Str) (st : Stmt) (f : Addr) (fd : FuncData) (c : Addr) : Prop where
  ex : ∃ (oc : Value) (od : Option Addr) (kV doc pm : Value) (an : Option Addr) (ct : Value) (osl : Array (Option Value)),
    fd = PySem.W.fnOf x qual (defArgs st) (defBody st) (defScope st) .none kV doc pm an (.ref c) ct ∧ K.lookup f = some ⟨oc, od, .func fd, osl⟩ ∧ PySem.W.codeIn K (.ref c) qual = true
  kp : PySem.W.keepIn K (.ref f) = true
theorem FunC.fun {K : PySem.W.Frag} {x qual : Str} {st : Stmt} {f : Addr} {fd : FuncData} {c : Addr} (F : FunC K x qual st f fd c) : L2.Fun K x qual st f fd := by
  obtain ⟨oc, od, kV, doc, pm, an, ct, osl, e, l, h⟩ := F.ex
  exact ⟨⟨oc, od, kV, doc, pm, an, .ref c, ct, osl, e, l, h⟩, F.kp⟩
theorem func_mk {K : PySem.W.Frag} {x qual : Str} {st : Stmt} {f c : Addr} {oc : Value} {od an : Option Addr} {osl : Array (Option Value)} {kV doc pm ct : Value} (l : K.lookup f = some ⟨oc, od, .func (PySem.W.fnOf x qual (defArgs st) (defBody st) (defScope st) .none kV doc pm an (.ref c) ct), osl⟩)
    (h : PySem.W.codeIn K (.ref c) qual = true) (k : PySem.W.keepIn K (.ref f) = true) : FunC K x qual st f (PySem.W.fnOf x qual (defArgs st) (defBody st) (defScope st) .none kV doc pm an (.ref c) ct) c := ⟨⟨oc, od, kV, doc, pm, an, ct, osl, rfl, l, h⟩, k⟩
theorem FunC.ok {P : Program} {w : World} {K : PySem.W.Frag} {mg : Str → Option Value} {base : Heap} {x qual : Str} {st : Stmt} {f c : Addr} {fd : FuncData} {N ps : List Str} {k : Nat} {sp : L2.Sp} (F : FunC K x qual st f fd c) (S : FnScope N ps (defScope st)) (many : ∀ vs H Q E, sp vs H Q E → vs.length = ps.length)
    (go : ∀ (A : Around) (outer : List Env) (s : Shared) (H : Hp) (vs : List V) (Q : VK) (E : XK), Room k (A.deeper (envOfC qual (defScope st) s.heap.objs.size f (.ref c))) → sp vs H Q E →
      ∃ t, PSs (cxOf L2.CX0 P w K mg base N qual (defScope st) f (.ref c) A outer s H E).nox (defBody st) t ∧ t { nx := fun _ H2 => Q .non H2, rt := Q } (start N vs) H) : FnOk P w K mg base L2.CX0 (k + 1) f fd ps sp := by
  obtain ⟨oc, od, kV, doc, pm, an, ct, osl, rfl, l, h⟩ := F.ex
  exact fn_of l h S many fun A outer s H vs Q E hr q => (go A outer s H vs Q E hr q).imp fun t z => ⟨z.1.nox, z.2⟩
/-- where the table of a def's code object lies -/
theorem tab_at {K : PySem.W.Frag} {x qual : Str} {st : Stmt} {f c P : Addr} {oc e : Value} {od dd an : Option Addr} {osl sl : Array (Option Value)} {kV doc pm ct : Value} {vs : Array Value} (a : PySem.W.nsIn K mainGlobals x = some (some (.ref f)))
    (l : K.lookup f = some ⟨oc, od, .func (PySem.W.fnOf x qual (defArgs st) (defBody st) (defScope st) .none kV doc pm an (.ref c) ct), osl⟩) (lc : K.lookup c = some ⟨e, dd, .fields vs, sl⟩) (h : vs[11]? = some (.ref P)) : PySem.W.tabIn K x = some (c, P) := by
  unfold PySem.W.tabIn
  rw [a]
  dsimp only
  rw [l]
  dsimp only [PySem.W.fnOf]
  rw [lc]
  dsimp only
  rw [h]
/-- the search for a number, halving: what number_at does with the count that it gets -/
def TNum : Tell := fun tl v1 v2 v3 H Q => ∃ (n lo hi : Int) (G : Int → Int), v1 = .int n ∧ v2 = .int lo ∧ v3 = .int hi ∧ (∀ m H1 Q2, Same H H1 → (∀ H2, Same H1 H2 → Q2 (.int (G m)) H2) → tl (.int m) H1 Q2) ∧ lo ≤ hi ∧ G lo ≤ n ∧ n < G (hi + 1) ∧
  ∀ r H1, Same H H1 → lo ≤ r → r ≤ hi → G r ≤ n → n < G (r + 1) → Q (.int r) H1
end Lm

/-! the head of a law some of whose defs make a lambda: tables of code objects are tracked from the start. -/
namespace Gd
open PySem PySem.Spec PyProof.Rows L2 Sp LamX
theorem FnG.of {P : Program} {w : World} {K : PySem.W.Frag} {mg : Str → Option Value} {base : Heap} {k : Nat} {f : Addr} {fd : FuncData} {ps : List Str} {sp : L2.Sp} (F : FnOk P w K mg base CX0 k f fd ps sp) : FnG P w K mg base k f fd ps sp :=
  ⟨F.len, fun B fs z H ws us vs Q E _ hr e0 b r h => F.run B fs z H ws us vs Q E hr e0 b r h⟩
section
variable {P : Program} {w : World} {K : PySem.W.Frag} {mg mb : Str → Option Value} {k : Nat} {fa a : Addr} {fd : FuncData} {x : Str} {sp : L2.Sp} {z : Shared} {us : List Value} {ns : List Int}
/-- tracked: u at the script's place, an empty table at each place of ts -/
def firstH (a : Addr) (u : Option HO) (ts : List Addr) : Hp := fun b => if b = a then u else if b ∈ ts then some (.tbl #[]) else none
/-- the module's own dict is known -/
abbrev MainAt (mg : Str → Option Value) (h : Heap) : Prop := ∃ (bm : Addr) (ob : Obj), mg "__builtins__" = some (.ref bm) ∧ bm ≠ builtinsNs ∧ h.get? bm = some ob ∧ ob.cls = .type "module" ∧ ob.dict = some builtinsNs ∧ ob.data = .plain
theorem held_ofT {cs : List (Addr × Addr)} {u : Option HO} (hu : ∀ v, u = some v → K.lookup a = none ∧ v = .frz { cls := .type "list", data := .seq us.toArray } (.lst (ns.map V.int)))
    (kin : K.In z.heap) (g : z.heap.Ns mainGlobals mg) (bn : z.heap.Ns builtinsNs mb) (bt : ∀ x : Str, x ≠ "__name__" → mb x = bootBuiltins x) (nl : z.heap.NoLimit) (gs : z.gens = #[]) (bm : MainAt mg z.heap)
    (empty : ∀ p ∈ cs, z.heap.get? p.2 = some { cls := .none, data := .fields #[] }) (nK : ∀ p ∈ cs, K.lookup p.2 = none) (code : ∀ p ∈ cs, PySem.W.CodeHd z.heap p.1 p.2)
    (at_ : z.heap.get? a = some { cls := .type "list", data := .seq us.toArray }) (rv : Vals (ns.map V.int) us) (len : ns.length ≤ sizeLine) (hr : Room k callerA)
    (F : ∀ base : Heap, K.In base → base.Ns mainGlobals mg → (∀ p ∈ cs, TabB base mg p.1 p.2) → FnG P w K mg base k fa fd [x] sp) (bd : ∀ (s : Shared) (v : Value), BindsTo s fd ⟨[v], []⟩ [(x, v)])
    (hs : SqL K (firstH a u (cs.map (·.2))) a (ns.map V.int)) (want : ∀ H : Hp, (∀ p ∈ cs, H p.2 = some (.tbl #[])) → SqL K H a (ns.map V.int) → sp [.ref a] H (fun v _ => v = .bl true) fun _ _ _ => False) :
    codeAny (model P w) callerA (.call (.ref fa) ⟨[.ref a], []⟩) (Held z) z := by
  have emp : ∀ b ∈ cs.map (·.2), z.heap.get? b = some { cls := .none, data := .fields #[] } := fun b hb => by
    obtain ⟨p, hp, rfl⟩ := List.mem_map.mp hb
    exact empty p hp
  have na : a ∉ cs.map (·.2) := fun m => by
    have e := emp a m
    rw [at_] at e
    have e2 := congrArg Obj.cls (Option.some.inj e)
    cases e2
  generalize hT : firstH a u (cs.map (·.2)) = T at hs
  have only : ∀ {b : Addr} {v : HO}, T b = some v → (b = a ∧ u = some v) ∨ (b ∈ cs.map (·.2) ∧ v = .tbl #[]) := fun {b v} e => by
    rw [← hT] at e
    unfold firstH at e
    by_cases n : b = a
    · exact .inl ⟨n, (if_pos n).symm.trans e⟩
    · rw [if_neg n] at e
      by_cases m : b ∈ cs.map (·.2)
      · rw [if_pos m] at e
        exact .inr ⟨m, (Option.some.inj e).symm⟩
      · rw [if_neg m] at e
        cases e
  have tabs : ∀ p ∈ cs, T p.2 = some (.tbl #[]) := fun p hp => by
    have m : p.2 ∈ cs.map (·.2) := List.mem_map.mpr ⟨p, hp, rfl⟩
    rw [← hT]
    unfold firstH
    rw [if_neg (show ¬ p.2 = a from fun e => na (by rw [← e]; exact m)), if_pos m]
  have off : ∀ {b : Addr} {o : Obj}, z.heap.get? b = some o → (∀ es, o.data ≠ .seq us.toArray es) → o.data ≠ .fields #[] → T b = none := fun {b o} e d d2 => by
    cases q : T b with
    | none => rfl
    | some v =>
      rcases only q with ⟨rfl, _⟩ | ⟨m, _⟩
      · rw [at_] at e
        exact absurd (congrArg Obj.data (Option.some.inj e)).symm (d _)
      · rw [emp b m] at e
        exact absurd (congrArg Obj.data (Option.some.inj e)).symm d2
  have names : ∀ {b : Addr} {m : Str → Option Value}, z.heap.Ns b m → (hidT z.heap T).Ns b m := fun {b m} n => by
    obtain ⟨o, es, ep, e, d, r⟩ := n
    exact ⟨o, es, ep, hidT_get e (off e (fun es' q => by rw [d] at q; cases q) (fun q => by rw [d] at q; cases q)), d, r⟩
  have kin2 : K.In (hidT z.heap T) := fun b o e => hidT_get (kin b o e) (by
    cases q : T b with
    | none => rfl
    | some v =>
      rcases only q with ⟨rfl, q2⟩ | ⟨m, _⟩
      · rw [(hu v q2).1] at e
        cases e
      · obtain ⟨p, hp, rfl⟩ := List.mem_map.mp m
        rw [nK p hp] at e
        cases e)
  have ok : HOk P w T z.heap := fun b v e => by
    rcases only e with ⟨rfl, q2⟩ | ⟨m, rfl⟩
    · obtain ⟨_, rfl⟩ := hu v q2
      exact ⟨at_, by rw [List.length_map]; exact len, us, _, rv, at_⟩
    · exact emp b m
  have TB : ∀ p ∈ cs, TabB (hidT z.heap T) mg p.1 p.2 := fun p hp => by
    have e0 := empty p hp
    constructor
    · obtain ⟨o, vs, file, tf, flags, tg, inF, text, tt, e1, r1, r2, r3, r⟩ := code p hp
      refine ⟨o, vs, file, tf, flags, tg, inF, text, tt, hidT_get e1 (off e1 (fun es q => ?_) (fun q => ?_)), r1, r2, r3, r⟩
      · rw [r2] at q
        cases q
      · rw [r2] at q
        cases q
        simp at r3
    · obtain ⟨b, ob, b1, b2, b3, b4, b5, b6⟩ := bm
      refine ⟨b, ob, b1, b2, fun q => ?_, fun q => ?_, hidT_get b3 (off b3 (fun es q => ?_) (fun q => ?_)), b4, b5, b6⟩
      · obtain ⟨o, es, ep, e, d, _⟩ := g
        rw [q, e] at b3
        cases b3
        rw [d] at b6
        cases b6
      · rw [q, e0] at b3
        cases b3
        cases b6
      · rw [b6] at q
        cases q
      · rw [b6] at q
        cases q
    · intro q
      obtain ⟨o, es, ep, e, d, _⟩ := g
      rw [q, e0] at e
      cases e
      cases d
  obtain ⟨mc, c1, c2⟩ := nl
  have e0 : Env0 P w K mg (hidT z.heap T) callerA [] z T := ⟨rfl, ⟨kin2, names g, ⟨mb, names bn, bt⟩, ⟨mc, names c1, c2⟩⟩, fun b o e => of_hidT e, Nat.le_of_eq (hidT_size _ _), trivial, (fun b hb => nomatch hb), ok, .of_eq gs⟩
  refine codeAny_mono ((F _ kin2 (names g) TB).goes callerA [] z T ⟨[.ref a], []⟩ [.ref a] [.ref a] _ _ rfl hr e0 (bd z (.ref a)) (.cons rfl .nil) (want T tabs hs)) fun res z2 hz => ?_
  match res, hz with
  | .error e, hz => exact hz.elim
  | .ok .next, hz => exact hz.elim
  | .ok .brk, hz => exact hz.elim
  | .ok .cont, hz => exact hz.elim
  | .ok (.ret v), hz =>
    obtain ⟨y, T2, os, bare, un, ok2, ry, q⟩ := hz
    have q' : y = .bl true := q
    subst q'
    obtain rfl : v = Value.bool true := ry
    have same : ∀ b o, b ∉ cs.map (·.2) → z.heap.get? b = some o → z2.heap.get? b = some o := fun b o nb e => by
      cases q2 : T b with
      | none => exact un.keep b o e q2 (fun y => nomatch y) (fun y => nomatch y)
      | some v2 =>
        rcases only q2 with ⟨rfl, q3⟩ | ⟨m, _⟩
        · obtain ⟨_, rfl⟩ := hu v2 q3
          rw [at_] at e
          cases e
          exact (ok2 b _ (un.frzs b _ _ q2)).1
        · exact absurd m nb
    have more : ∀ p ∈ cs, ∃ m : Array Value, z2.heap.get? p.2 = some { cls := .none, data := .fields m } := fun p hp => by
      obtain ⟨m, e⟩ := un.tbls p.2 #[] (tabs p hp)
      exact ⟨_, ok2 p.2 _ e⟩
    refine ⟨rfl, ⟨fun b o e => ?_, fun b o e => ?_⟩, os, bare⟩
    · by_cases m : b ∈ cs.map (·.2)
      · obtain ⟨p, hp, rfl⟩ := List.mem_map.mp m
        rw [empty p hp] at e
        cases e
        obtain ⟨m2, e2⟩ := more p hp
        exact .inr (.inl ⟨((code p hp).tab (empty p hp)).isCodeTable, rfl, #[], m2, rfl, by rw [Array.empty_append]; exact e2⟩)
      · exact .inl (same b o m e)
    · by_cases m : b ∈ cs.map (·.2)
      · obtain ⟨p, hp, rfl⟩ := List.mem_map.mp m
        obtain ⟨m2, e2⟩ := more p hp
        exact ⟨_, e2⟩
      · exact ⟨o, same b o m e⟩
end
/-- the head of a law with tables, and with defs that ask repr (or none) -/
theorem walkT {l : PySem.W.OpenLaw} {n k : Nat} {q : Program} {loose : List Str} {XP : (Str → Option Value) → Heap → Prop} {YP : World → Heap → Prop} {d : DefRec} {K : Params → PySem.W.Frag} {x : Str} (makers : List Str) (most : l.most = some n) (le : n ≤ sizeLine)
    (nod : d.params.defaults = []) (hr : Room k callerA) (known : ∀ m ∈ makers, ((recsOf q).find? fun e => e.name == m).isSome = true) (part : ∀ (w : World) (h : Heap), YP w h → (K w.params).In h)
    (F : ∀ (w : World) (mg : Str → Option Value) (fa : Addr) (h : Heap), (K w.params).In h → h.Ns mainGlobals mg → mg d.name = some (.ref fa) →
      ∃ (fd : FuncData) (cs : List (Addr × Addr)) (sp : L2.Sp), (∀ p ∈ cs, (K w.params).lookup p.2 = none) ∧ (∀ p ∈ cs, ∃ m ∈ makers, PySem.W.tabIn (K w.params) m = some p) ∧ (∀ (s : Shared) (v : Value), BindsTo s fd ⟨[v], []⟩ [(x, v)]) ∧
        (∀ (H : Hp) (a : Addr) (ns : List Int), ns.length ≤ n → (∀ p ∈ cs, H p.2 = some (.tbl #[])) → SqL (K w.params) H a (ns.map V.int) → sp [.ref a] H (fun v _ => v = .bl true) fun _ _ _ => False) ∧
        ∀ base : Heap, (K w.params).In base → base.Ns mainGlobals mg → (∀ p ∈ cs, TabB base mg p.1 p.2) → FnG l.prog w (K w.params) mg base k fa fd [x] sp) :
    PySem.W.WalkO q loose XP YP l.row.toRowW d [] (fun f vs => PySem.call f vs) := by
  refine Att.attach_call most nod fun w s0 z mg mb fa o pm cd doc a us ns G Y ho hd hcd hmg at_ hi hl gs => ?_
  have kin := part w _ Y
  obtain ⟨fd, cs, sp, nK, tin, bd, want, FF⟩ := F w mg fa _ kin G.T.g hmg
  have rv := vals_ints hi
  have len : ns.length ≤ sizeLine := Nat.le_trans hl le
  have tab : ∀ p ∈ cs, PySem.W.CodeHd z.heap p.1 p.2 ∧ z.heap.get? p.2 = some { cls := .none, data := .fields #[] } := fun p hp => by
    obtain ⟨m, hm, e⟩ := tin p hp
    obtain ⟨dm, hdm⟩ := Option.isSome_iff_exists.mp (known m hm)
    exact PySem.W.tab_of G.T kin hdm e
  cases hk : (K w.params).lookup a with
  | some o2 =>
    have e := kin a o2 hk
    rw [at_] at e
    cases e
    refine held_ofT (cs := cs) (u := none) (fun _ e => nomatch e) kin G.T.g G.T.b G.T.builtins G.T.nolimit gs G.T.bmain (fun p hp => (tab p hp).2) nK (fun p hp => (tab p hp).1) at_ rv len hr FF bd (.inr ⟨_, us.toArray, _, hk, rfl, rfl, rfl, ?_, by simpa using rv⟩) fun H h h2 => want H a ns hl h h2
    rw [List.size_toArray, hi.length]
    exact len
  | none =>
    exact held_ofT (cs := cs) (u := some (.frz { cls := .type "list", data := .seq us.toArray } (.lst (ns.map V.int)))) (fun v e => ⟨hk, (Option.some.inj e).symm⟩) kin G.T.g G.T.b G.T.builtins G.T.nolimit gs G.T.bmain (fun p hp => (tab p hp).2) nK (fun p hp => (tab p hp).1) at_ rv len hr FF bd (.inl (.inr ⟨_, if_pos rfl⟩)) fun H h h2 => want H a ns hl h h2
end Gd

/-! sorted(xs), xs a list of triples of whole numbers of any size. -/
namespace Tri
open PySem PySem.Spec PyProof.Rows SrtO
abbrev T3 := Int × Int × Int
/-- one triple ahead of another: by the first number, then the second, then the third -/
def before (a b : T3) : Prop := a.1 < b.1 ∨ (a.1 = b.1 ∧ (a.2.1 < b.2.1 ∨ (a.2.1 = b.2.1 ∧ a.2.2 < b.2.2)))
instance (a b : T3) : Decidable (before a b) := by unfold before; infer_instance
def bef (a b : T3) : Bool := decide (before a b)
theorem bef_yes {a b : T3} : bef a b = true ↔ before a b := decide_eq_true_iff
theorem bef_no {a b : T3} : bef a b = false ↔ ¬ before a b := decide_eq_false_iff_not
theorem swo3 {α : Type} (k : α → T3) : Swo fun v u => bef (k v) (k u) := by
  refine ⟨fun x y h => ?_, fun x y z h1 h2 => ?_⟩
  · have a := bef_yes.mp h
    refine bef_no.mpr ?_
    unfold before at *
    omega
  · have a := bef_no.mp h1
    have b := bef_no.mp h2
    refine bef_no.mpr ?_
    unfold before at *
    omega
/-- a tuple of three whole numbers -/
def Is3 (h : Heap) (v : Value) (x : T3) : Prop := ∃ (a : Addr) (o : Obj) (t u z : Tok) (n : Nat), v = .ref a ∧ h.get? a = some o ∧ o.cls = .type "tuple" ∧ o.data = .seq #[.int x.1 t, .int x.2.1 u, .int x.2.2 z] n
theorem Is3.stay {h h' : Heap} {v : Value} {x : T3} (i : Is3 h v x) (k : ∀ b o, h.get? b = some o → o.cls = .type "tuple" → h'.get? b = some o) : Is3 h' v x := by
  obtain ⟨a, o, t, u, z, n, e, ho, hc, hd⟩ := i
  exact ⟨a, o, t, u, z, n, e, k a o ho hc, hc, hd⟩
theorem heads {h : Heap} {k : Value → T3} : ∀ {vs : List Value}, (∀ v ∈ vs, Is3 h v (k v)) → ∃ fs : List Value, PySem.W.KatTups h vs fs ∧ fs.length = vs.length ∧ ∀ f ∈ fs, ∃ x t, f = Value.int x t
  | [], _ => ⟨[], PySem.W.KatTups.nil, rfl, fun _ z => nomatch z⟩
  | v :: vs, g => by
    obtain ⟨fs, h1, h2, h3⟩ := heads (vs := vs) fun u hu => g u (List.mem_cons_of_mem _ hu)
    obtain ⟨a, o, t, u, z, n, e, ho, hc, hd⟩ := g v List.mem_cons_self
    generalize (k v).1 = x at hd
    subst e
    refine ⟨.int x t :: fs, PySem.W.KatTups.cons ho hc hd rfl h1, by rw [List.length_cons, List.length_cons, h2], fun f hf => ?_⟩
    rcases List.mem_cons.mp hf with q | q
    · exact ⟨x, t, q⟩
    · exact h3 f q
section
variable {prog : Program} {w : World} {A : Around} {E : Value → Shared → Prop} {s : Shared}
theorem cmp3 {vs : List Value} {k : Value → T3} (g : ∀ v ∈ vs, Is3 s.heap v (k v)) : Cmp prog w A s (tuples' true) (fun p => p.1 ∈ vs) (lt2 fun v u => bef (k v) (k u)) := by
  intro p q hp hq
  have g1 := g _ hp
  have g2 := g _ hq
  show wpAny (model prog w) A (keyLt' (tuples' true) p.1 q.1) (fun r s' => s' = s ∧ r = bef (k p.1) (k q.1)) (fun _ _ => False) s
  generalize k p.1 = x at g1 ⊢
  generalize k q.1 = y at g2 ⊢
  obtain ⟨x1, x2, x3⟩ := x
  obtain ⟨y1, y2, y3⟩ := y
  obtain ⟨a, o, t, u, z, n, e, ho, hc, hd⟩ := g1
  obtain ⟨a', o', t', u', z', n', e', ho', hc', hd'⟩ := g2
  rw [e, e']
  dsimp only at hd hd'
  have yes : ∀ {b : Bool}, (b = true ↔ before (x1, x2, x3) (y1, y2, y3)) → (s = s ∧ b = bef (x1, x2, x3) (y1, y2, y3)) := fun {b} i => ⟨rfl, by
    cases b with
    | true => exact (bef_yes.mpr (i.mp rfl)).symm
    | false => exact (bef_no.mpr fun q => (by cases i.mpr q)).symm⟩
  refine PySem.W.kat_lt ho hd ho' hd' ?_
  show PySem.W.KatLex prog w A true (decide (3 < 3)) _ [(.int x1 t, .int y1 t'), (.int x2 u, .int y2 u'), (.int x3 z, .int y3 z')] 0 s
  refine PySem.W.kat_cons (SeqAt.EqAt.int_int x1 t y1 t' prog w _ _ (PySem.W.kat_go (fun e1 => ?_) (fun e1 => ?_)))
  · have i1 : x1 = y1 := by simpa using e1
    refine PySem.W.kat_yes (PySem.W.kat_cons (SeqAt.EqAt.int_int x2 u y2 u' prog w _ _ (PySem.W.kat_go (fun e2 => ?_) (fun e2 => ?_))))
    · have i2 : x2 = y2 := by simpa using e2
      refine PySem.W.kat_yes (PySem.W.kat_cons (SeqAt.EqAt.int_int x3 z y3 z' prog w _ _ (PySem.W.kat_go (fun e3 => ?_) (fun e3 => ?_))))
      · have i3 : x3 = y3 := by simpa using e3
        refine PySem.W.kat_yes (PySem.W.kat_nil (yes ?_))
        rw [decide_eq_true_iff]
        show 3 < 3 ↔ _
        unfold before
        dsimp only
        omega
      · have i3 : ¬ x3 = y3 := by simpa using e3
        refine PySem.W.kat_no (PySem.W.kat_one _ _ (PyProof.Rows.lt_int (yes ?_)))
        rw [decide_eq_true_iff]
        unfold before
        dsimp only
        omega
    · have i2 : ¬ x2 = y2 := by simpa using e2
      refine PySem.W.kat_no (PySem.W.kat_one _ _ (PyProof.Rows.lt_int (yes ?_)))
      rw [decide_eq_true_iff]
      unfold before
      dsimp only
      omega
  · have i1 : ¬ x1 = y1 := by simpa using e1
    refine PySem.W.kat_no (oneLt_int (yes ?_))
    rw [decide_eq_true_iff]
    unfold before
    dsimp only
    omega
theorem sortable3 {a : Addr} {vs : List Value} {k : Value → T3} (pos : 0 < vs.length) (g : ∀ v ∈ vs, Is3 s.heap v (k v)) (na : ∀ o, s.heap.get? a = some o → o.cls ≠ .type "tuple") : SortableO prog w A s a vs fun v u => bef (k v) (k u) := by
  intro h' keep
  have g' : ∀ v ∈ vs, Is3 h' v (k v) := fun v hv => (g v hv).stay fun b o e c => keep b o (fun z => na o (z ▸ e) c) e
  obtain ⟨fs, h1, h2, h3⟩ := heads g'
  refine ⟨tuples' true, fun Q E hq => ?_, cmp3 g'⟩
  refine PySem.W.kat_kind (T := .type "int") h1 (by omega) (fun f hf => ?_) (by rfl) ?_
  · obtain ⟨x, t, rfl⟩ := h3 f hf
    exact PySem.W.Looks.now
  · have e : (Value.type "int" != Value.type "tuple") = true := by first | decide +kernel | rfl | decide
    rw [e]
    exact hq
theorem sorted3 {l : Addr} {vs : List Value} {k : Value → T3} {Q : Value → Shared → Prop} (hl : s.heap.IsList l vs.toArray) (hz : vs.length ≤ sizeLine) (g : ∀ v ∈ vs, Is3 s.heap v (k v))
    (h : ∀ (h' : Heap) (d : Addr) (out : List Value), Srtd (fun v u => bef (k v) (k u)) out → Stb (fun v u => bef (k v) (k u)) out vs → (∀ b o, s.heap.get? b = some o → h'.get? b = some o) → s.heap.objs.size ≤ d → (∃ n, h'.get? d = some (seqObj "list" out.toArray n)) → Q (.ref d) { s with heap := h' }) :
    wpAny (model prog w) A (call (.builtin "sorted") [.ref l]) Q E s := by
  refine sorted_ord (swo3 k) hl hz (fun h2 h₁ a ha kk => ?_) fun out hs hb => h _ _ out hs hb (fun b o e => sortedAll_old e) (Nat.le_succ _) (sortedAll_at s.heap vs out.toArray)
  refine sortable3 (s := { s with heap := h₁ }) (by omega) (fun v hv => (g v hv).stay fun b o e _ => (kk b o e).2) fun o e c => ?_
  have e' : some o = some (seqObj "list" vs.toArray 0) := e.symm.trans ha
  cases e'
  exact absurd (Value.type.inj c) (by decide)
end
end Tri
namespace Tri
open PySem PySem.Spec PyProof.Rows L2
/-- sorted(xs), xs a list of tuples of three whole numbers (k says which) -/
def rSorted3 (K : PySem.W.Frag) : List V → Hp → VK → Prop := fun vs H Q => ∃ (a : Addr) (xs : List V) (k : V → T3), vs = [V.ref a] ∧ SqL K H a xs ∧ (∀ x ∈ xs, ∃ t, x = V.ref t ∧ H t = some (.tup [.int (k x).1, .int (k x).2.1, .int (k x).2.2])) ∧
  ∀ ys p, ys.Perm xs → (ys.map k).Pairwise (fun a b => ¬ before b a) → H p = none → Q (.ref p) (upd H p (.lst ys))
theorem cr_sorted3 {X : Cx} : CallR X (.builtin "sorted") (rSorted3 X.K) := by
  intro pins z σ H vs us Q I r h
  obtain ⟨a, xs, k, rfl, hs, hx, q⟩ := h
  obtain ⟨its, rv, hl, hz⟩ := I.list hs
  obtain ⟨u, rfl, ru⟩ := vals1 r
  obtain rfl : u = Value.ref a := ru
  obtain ⟨e1, e2⟩ := refs_back rv fun x m => (hx x m).imp fun t e => e.1
  refine sorted3 (k := fun u => k (backV u)) hl.isList (by rw [← rv.length]; exact hz) (fun v hv => ?_) fun h' d out h1 h2 kp hd hn => ?_
  · obtain ⟨t, rfl⟩ := e2 v hv
    obtain ⟨t', e, ht⟩ := hx (V.ref t) (by rw [e1]; exact List.mem_map.mpr ⟨_, hv, rfl⟩)
    cases e
    obtain ⟨_, its2, r2, o, ho, hc, n, hd⟩ := I.hok _ _ ht
    cases r2 with
    | cons ra rr =>
      cases rr with
      | cons rb rs =>
        cases rs with
        | cons rc rt =>
          cases rt
          obtain ⟨t1, rfl⟩ := ra
          obtain ⟨t2, rfl⟩ := rb
          obtain ⟨t3, rfl⟩ := rc
          exact ⟨t, o, t1, t2, t3, n, rfl, ho, hc, hd⟩
  · have h3 : ∀ u ∈ out, ∃ a, u = Value.ref a := fun u hu => e2 u (h2.perm.mem_iff.mp hu)
    obtain ⟨n, hn⟩ := hn
    have hp : (out.map backV).Perm xs := by rw [e1]; exact h2.perm.map backV
    refine ⟨.ref d, upd H d (.lst (out.map backV)), I.laid (t' := z.toks) kp hd ⟨?_, out, n, vals_back h3, hn⟩, rfl, q _ d hp ?_ (I.hok.fresh hd)⟩
    · rw [hp.length_eq]
      exact hz
    · rw [List.map_map, List.pairwise_map]
      exact h1.imp fun g => bef_no.mp g
end Tri
namespace Tri
open Sp
/-! ### all pairs of places, in order -/
def rowP (x : Int) (i : Nat) : List Int → Nat → List T3
  | [], _ => []
  | y :: ms, j => (x + y, (i : Int), (j : Int)) :: rowP x i ms (j + 1)
def allP : List Int → Nat → List Int → List T3
  | [], _, _ => []
  | x :: ns, i, ms => rowP x i ms 0 ++ allP ns (i + 1) ms
theorem rowP_snoc (x : Int) (i : Nat) (y : Int) : ∀ (ms : List Int) (j : Nat), rowP x i (ms ++ [y]) j = rowP x i ms j ++ [(x + y, (i : Int), ((j + ms.length : Nat) : Int))]
  | [], j => rfl
  | z :: ms, j => by
    show _ :: rowP x i (ms ++ [y]) (j + 1) = _ :: (rowP x i ms (j + 1) ++ _)
    rw [rowP_snoc x i y ms (j + 1), List.length_cons, show j + 1 + ms.length = j + (ms.length + 1) from by omega]
theorem allP_snoc (x : Int) (ms : List Int) : ∀ (ns : List Int) (i : Nat), allP (ns ++ [x]) i ms = allP ns i ms ++ rowP x (i + ns.length) ms 0
  | [], i => by show rowP x i ms 0 ++ [] = _; rw [List.append_nil]; rfl
  | z :: ns, i => by
    show rowP z i ms 0 ++ allP (ns ++ [x]) (i + 1) ms = (rowP z i ms 0 ++ allP ns (i + 1) ms) ++ _
    rw [allP_snoc x ms ns (i + 1), List.length_cons, List.append_assoc, show i + 1 + ns.length = i + (ns.length + 1) from by omega]
theorem rowP_len (x : Int) (i : Nat) : ∀ (ms : List Int) (j : Nat), (rowP x i ms j).length = ms.length
  | [], _ => rfl
  | _ :: ms, j => by show (rowP x i ms (j + 1)).length + 1 = _; rw [rowP_len x i ms (j + 1)]; rfl
theorem allP_len (ms : List Int) : ∀ (ns : List Int) (i : Nat), (allP ns i ms).length = ns.length * ms.length
  | [], _ => by rw [List.length_nil, Nat.zero_mul]; rfl
  | x :: ns, i => by
    show (rowP x i ms 0 ++ allP ns (i + 1) ms).length = _
    rw [List.length_append, rowP_len, allP_len ms ns (i + 1), List.length_cons, Nat.add_mul, Nat.one_mul, Nat.add_comm]
theorem rowP_mem {x : Int} {i : Nat} {t : T3} : ∀ {ms : List Int} {j : Nat}, t ∈ rowP x i ms j ↔ ∃ (n : Nat) (y : Int), ms[n]? = some y ∧ t = (x + y, (i : Int), ((j + n : Nat) : Int))
  | [], j => by simp [rowP]
  | z :: ms, j => by
    show t ∈ _ :: rowP x i ms (j + 1) ↔ _
    rw [List.mem_cons, rowP_mem (ms := ms) (j := j + 1)]
    constructor
    · rintro (rfl | ⟨n, y, h1, rfl⟩)
      · exact ⟨0, z, rfl, rfl⟩
      · exact ⟨n + 1, y, h1, by rw [show j + 1 + n = j + (n + 1) from by omega]⟩
    · rintro ⟨n, y, h1, rfl⟩
      cases n with
      | zero => exact .inl (by cases h1; rfl)
      | succ n => exact .inr ⟨n, y, h1, by rw [show j + 1 + n = j + (n + 1) from by omega]⟩
theorem allP_mem {ms : List Int} {t : T3} : ∀ {ns : List Int} {i : Nat}, t ∈ allP ns i ms ↔ ∃ (m n : Nat) (x y : Int), ns[m]? = some x ∧ ms[n]? = some y ∧ t = (x + y, ((i + m : Nat) : Int), (n : Int))
  | [], i => by simp [allP]
  | z :: ns, i => by
    show t ∈ rowP z i ms 0 ++ allP ns (i + 1) ms ↔ _
    rw [List.mem_append, rowP_mem, allP_mem (ns := ns) (i := i + 1)]
    constructor
    · rintro (⟨n, y, h1, rfl⟩ | ⟨m, n, x, y, h1, h2, rfl⟩)
      · exact ⟨0, n, z, y, rfl, h1, by rw [Nat.zero_add]; rfl⟩
      · exact ⟨m + 1, n, x, y, h1, h2, by rw [show i + 1 + m = i + (m + 1) from by omega]⟩
    · rintro ⟨m, n, x, y, h1, h2, rfl⟩
      cases m with
      | zero => exact .inl ⟨n, y, h2, by cases h1; rw [Nat.zero_add]; rfl⟩
      | succ m => exact .inr ⟨m, n, x, y, h1, h2, by rw [show i + 1 + m = i + (m + 1) from by omega]⟩
/-- how many of a row of the pairs stand ahead of the pair (s, i, j) -/
theorem row_less {s x : Int} {i e j : Nat} (h : e < i) : ∀ (ms : List Int) (b : Nat), (rowP x e ms b).countP (fun t => bef t (s, (i : Int), (j : Int))) = cntB ms (s - x) + ms.count (s - x)
  | [], _ => rfl
  | y :: ms, b => by
    show List.countP _ (_ :: rowP x e ms (b + 1)) = _
    rw [List.countP_cons, row_less h ms (b + 1), cntB_cons, List.count_cons]
    by_cases c : y < s - x
    · rw [if_pos (bef_yes.mpr (.inl (by show x + y < s; omega))), if_pos c, if_neg (by simp; omega)]
      omega
    · by_cases d : y = s - x
      · rw [if_pos (bef_yes.mpr (.inr ⟨by show x + y = s; omega, .inl (by show (e : Int) < (i : Int); omega)⟩)), if_neg c, if_pos (by simp [d])]
        omega
      · have c2 : ¬ bef (x + y, (e : Int), (b : Int)) (s, (i : Int), (j : Int)) = true := fun z => by
          have := bef_yes.mp z
          unfold before at this
          dsimp only at this
          omega
        rw [if_neg c2, if_neg c, if_neg (by simpa using d)]
        omega
theorem row_more {s x : Int} {i e j : Nat} (h : i < e) : ∀ (ms : List Int) (b : Nat), (rowP x e ms b).countP (fun t => bef t (s, (i : Int), (j : Int))) = cntB ms (s - x)
  | [], _ => rfl
  | y :: ms, b => by
    show List.countP _ (_ :: rowP x e ms (b + 1)) = _
    rw [List.countP_cons, row_more h ms (b + 1), cntB_cons]
    by_cases c : y < s - x
    · rw [if_pos (bef_yes.mpr (.inl (by show x + y < s; omega))), if_pos c]
    · rw [if_neg (fun z => ?_), if_neg c]
      have := bef_yes.mp z
      unfold before at this
      dsimp only at this
      omega
theorem row_same {s x : Int} {i j : Nat} : ∀ (ms : List Int) (b : Nat), b ≤ j → (rowP x i ms b).countP (fun t => bef t (s, (i : Int), (j : Int))) = cntB ms (s - x) + (ms.take (j - b)).count (s - x)
  | [], _, _ => by rw [List.take_nil]; rfl
  | y :: ms, b, hb => by
    show List.countP _ (_ :: rowP x i ms (b + 1)) = _
    rw [List.countP_cons, cntB_cons]
    by_cases e : b = j
    · subst e
      have hz : ∀ (ms : List Int) (c : Nat), b < c → (rowP x i ms c).countP (fun t => bef t (s, (i : Int), (b : Int))) = cntB ms (s - x) := by
        intro ms
        induction ms with
        | nil => intro c _; rfl
        | cons z ms ih =>
          intro c hc
          show List.countP _ (_ :: rowP x i ms (c + 1)) = _
          rw [List.countP_cons, ih (c + 1) (by omega), cntB_cons]
          by_cases d : z < s - x
          · rw [if_pos (bef_yes.mpr (.inl (by show x + z < s; omega))), if_pos d]
          · rw [if_neg (fun q => ?_), if_neg d]
            have := bef_yes.mp q
            unfold before at this
            dsimp only at this
            omega
      rw [hz ms (b + 1) (by omega), Nat.sub_self, List.take_zero, List.count_nil]
      by_cases c : y < s - x
      · rw [if_pos (bef_yes.mpr (.inl (by show x + y < s; omega))), if_pos c]
      · rw [if_neg (fun q => ?_), if_neg c]
        have := bef_yes.mp q
        unfold before at this
        dsimp only at this
        omega
    · rw [row_same ms (b + 1) (by omega), show j - b = (j - (b + 1)) + 1 from by omega, List.take_succ_cons, List.count_cons]
      by_cases c : y < s - x
      · rw [if_pos (bef_yes.mpr (.inl (by show x + y < s; omega))), if_pos c, if_neg (by simp; omega)]
        omega
      · by_cases d : y = s - x
        · have c1 : bef (x + y, (i : Int), (b : Int)) (s, (i : Int), (j : Int)) = true := bef_yes.mpr (.inr ⟨by show x + y = s; omega, .inr ⟨rfl, by show (b : Int) < (j : Int); omega⟩⟩)
          rw [if_pos c1, if_neg c, if_pos (by simp [d])]
          omega
        · have c2 : ¬ bef (x + y, (i : Int), (b : Int)) (s, (i : Int), (j : Int)) = true := fun z => by
            have := bef_yes.mp z
            unfold before at this
            dsimp only at this
            omega
          rw [if_neg c2, if_neg c, if_neg (by simpa using d)]
          omega
theorem all_more {s : Int} {i j : Nat} {ms : List Int} : ∀ (ns : List Int) (e : Nat), i < e → (allP ns e ms).countP (fun t => bef t (s, (i : Int), (j : Int))) = cntS ns ms s
  | [], _, _ => rfl
  | x :: ns, e, h => by
    show List.countP _ (rowP x e ms 0 ++ allP ns (e + 1) ms) = _
    rw [List.countP_append, row_more h, all_more ns (e + 1) (by omega), cntS_cons]
/-- how many pairs stand ahead of (s, i, j): those of a lesser sum, those of its sum in the rows ahead, those of its sum ahead in its own row -/
theorem all_ahead {s x : Int} {j : Nat} {ms : List Int} : ∀ (ns : List Int) (e i : Nat), ns[i]? = some x →
    (allP ns e ms).countP (fun t => bef t (s, ((e + i : Nat) : Int), (j : Int))) = cntS ns ms s + ((ns.take i).map fun z => ms.count (s - z)).sum + (ms.take j).count (s - x)
  | [], _, i, h => by simp at h
  | z :: ns, e, 0, h => by
    obtain rfl : z = x := Option.some.inj h
    show List.countP _ (rowP z e ms 0 ++ allP ns (e + 1) ms) = _
    rw [List.countP_append, Nat.add_zero, row_same ms 0 (Nat.zero_le _), all_more ns (e + 1) (by omega), cntS_cons, List.take_zero, List.map_nil, List.sum_nil, Nat.sub_zero]
    omega
  | z :: ns, e, i + 1, h => by
    have ih := all_ahead (s := s) (j := j) (ms := ms) ns (e + 1) i h
    show List.countP _ (rowP z e ms 0 ++ allP ns (e + 1) ms) = _
    rw [List.countP_append, row_less (by omega), cntS_cons, List.take_succ_cons, List.map_cons, List.sum_cons]
    rw [show e + 1 + i = e + (i + 1) from by omega] at ih
    rw [ih]
    omega
/-- all pairs of both rows, sorted -/
structure Ord (ns ms : List Int) (L : List T3) : Prop where
  perm : L.Perm (allP ns 0 ms)
  sort : L.Pairwise fun a b => ¬ before b a
theorem before_or {a b : T3} (h : ¬ before b a) : before a b ∨ a = b := by
  obtain ⟨a1, a2, a3⟩ := a
  obtain ⟨b1, b2, b3⟩ := b
  unfold before at *
  dsimp only at *
  by_cases c : a1 = b1 ∧ a2 = b2 ∧ a3 = b3
  · obtain ⟨rfl, rfl, rfl⟩ := c
    exact .inr rfl
  · left
    omega
/-- in a sorted list an item stands behind just those that are ahead of it -/
theorem stands : ∀ {L : List T3} {p : T3}, (L.Pairwise fun a b => ¬ before b a) → p ∈ L → L[L.countP fun t => bef t p]? = some p
  | [], p, _, h => nomatch h
  | a :: L, p, hs, hm => by
    have hs' := List.pairwise_cons.mp hs
    rw [List.countP_cons]
    by_cases c : before a p
    · rw [if_pos (bef_yes.mpr c)]
      have hp : p ∈ L := by
        rcases List.mem_cons.mp hm with e | e
        · rw [e] at c
          unfold before at c
          omega
        · exact e
      rw [List.getElem?_cons_succ]
      exact stands hs'.2 hp
    · rw [if_neg (fun z => c (bef_yes.mp z))]
      have e : a = p := by
        rcases List.mem_cons.mp hm with e | e
        · exact e.symm
        · rcases before_or (hs'.1 p e) with k | k
          · exact absurd k c
          · exact k
      have z : List.countP (fun t => bef t p) L = 0 := by
        rw [List.countP_eq_zero]
        intro b hb hq
        rw [← e] at hq
        exact hs'.1 b hb (bef_yes.mp hq)
      rw [z, e]
      rfl
/-- THE PLACE of a pair in the order -/
theorem Ord.place {ns ms : List Int} {L : List T3} (o : Ord ns ms L) {i j : Nat} {x y : Int} (hx : ns[i]? = some x) (hy : ms[j]? = some y) :
    L[cntS ns ms (x + y) + ((ns.take i).map fun z => ms.count (x + y - z)).sum + (ms.take j).count y]? = some (x + y, (i : Int), (j : Int)) := by
  have m : (x + y, (i : Int), (j : Int)) ∈ L := o.perm.mem_iff.mpr (allP_mem.mpr ⟨i, j, x, y, hx, hy, by rw [Nat.zero_add]⟩)
  have h1 := stands o.sort m
  rw [o.perm.countP_eq] at h1
  have h2 := all_ahead (s := x + y) (j := j) (ms := ms) ns 0 i hx
  rw [Nat.zero_add, show x + y - x = y from by omega] at h2
  rw [h2] at h1
  exact h1
theorem Ord.len {ns ms : List Int} {L : List T3} (o : Ord ns ms L) : L.length = ns.length * ms.length := by rw [o.perm.length_eq, allP_len]
/-- there is just one order -/
theorem Ord.one {ns ms : List Int} {L M : List T3} (a : Ord ns ms L) (b : Ord ns ms M) : L = M :=
  (a.perm.trans b.perm.symm).eq_of_pairwise (fun x y _ _ h1 h2 => by
    rcases before_or h1 with k | k
    · exact absurd k h2
    · exact k) a.sort b.sort
/-! ### lists of such tuples in the heap -/
open L2 in
structure Trip (H : Hp) (ts : List PySem.Addr) (L : List T3) : Prop where
  len : ts.length = L.length
  at_ : ∀ (j : Nat) (t : PySem.Addr) (x : T3), ts[j]? = some t → L[j]? = some x → H t = some (.tup [.int x.1, .int x.2.1, .int x.2.2])
section
open L2 PySem
theorem Trip.nil {H : Hp} : Trip H [] [] := ⟨rfl, fun _ _ _ h => by simp at h⟩
theorem Trip.up {H H' : Hp} {ts : List Addr} {L : List T3} (t : Trip H ts L) (s : Same H H') : Trip H' ts L := ⟨t.len, fun j a x h1 h2 => s _ _ (t.at_ j a x h1 h2)⟩
/-- a list's own change leaves the tuples -/
theorem Trip.set {H : Hp} {ts : List Addr} {L : List T3} {D : Addr} {o : HO} {xs : List V} (t : Trip H ts L) (h : H D = some (.lst xs)) : Trip (upd H D o) ts L := ⟨t.len, fun j a x h1 h2 => by
  have e := t.at_ j a x h1 h2
  rw [upd_ne (fun z => by rw [z, h] at e; cases e)]
  exact e⟩
theorem Trip.app {H : Hp} {ts us : List Addr} {L M : List T3} (a : Trip H ts L) (b : Trip H us M) : Trip H (ts ++ us) (L ++ M) := by
  refine ⟨by rw [List.length_append, List.length_append, a.len, b.len], fun j t x h1 h2 => ?_⟩
  by_cases c : j < ts.length
  · rw [List.getElem?_append_left c] at h1
    rw [List.getElem?_append_left (by rw [← a.len]; exact c)] at h2
    exact a.at_ j t x h1 h2
  · rw [List.getElem?_append_right (by omega)] at h1
    rw [List.getElem?_append_right (by rw [← a.len]; omega), ← a.len] at h2
    exact b.at_ _ t x h1 h2
theorem Trip.one {H : Hp} {t : Addr} {x y z : Int} (h : H t = some (.tup [.int x, .int y, .int z])) : Trip H [t] [(x, y, z)] := ⟨rfl, fun j a w h1 h2 => by
  cases j with
  | zero => cases h1; cases h2; exact h
  | succ j => simp at h1⟩
def keyOf (H : Hp) : V → T3
  | .ref t => match H t with
    | some (.tup [.int a, .int b, .int c]) => (a, b, c)
    | _ => (0, 0, 0)
  | _ => (0, 0, 0)
theorem keyOf_at {H : Hp} {t : Addr} {x : T3} (h : H t = some (.tup [.int x.1, .int x.2.1, .int x.2.2])) : keyOf H (.ref t) = x := by
  unfold keyOf
  simp only [h]
theorem Trip.keys {H : Hp} {ts : List Addr} {L : List T3} (t : Trip H ts L) : (ts.map V.ref).map (keyOf H) = L := by
  refine List.ext_getElem? fun j => ?_
  rw [List.map_map, List.getElem?_map]
  cases e : ts[j]? with
  | none =>
    have := List.getElem?_eq_none_iff.mp e
    exact (List.getElem?_eq_none_iff.mpr (by rw [← t.len]; exact this)).symm
  | some a =>
    have h1 := (List.getElem?_eq_some_iff.mp e).1
    have h2 : j < L.length := by rw [← t.len]; exact h1
    rw [List.getElem?_eq_getElem h2]
    exact congrArg some (keyOf_at (t.at_ j a _ e (List.getElem?_eq_getElem h2)))
theorem Trip.mem {H : Hp} {ts : List Addr} {L : List T3} (t : Trip H ts L) {a : Addr} (h : a ∈ ts) : H a = some (.tup [.int (keyOf H (.ref a)).1, .int (keyOf H (.ref a)).2.1, .int (keyOf H (.ref a)).2.2]) := by
  obtain ⟨j, hj⟩ := List.mem_iff_getElem?.mp h
  have h2 : j < L.length := by rw [← t.len]; exact (List.getElem?_eq_some_iff.mp hj).1
  have e := t.at_ j a _ hj (List.getElem?_eq_getElem h2)
  rw [keyOf_at e]
  exact e
theorem all_refs : ∀ {ys : List V}, (∀ y ∈ ys, ∃ t, y = V.ref t) → ∃ us : List Addr, ys = us.map V.ref
  | [], _ => ⟨[], rfl⟩
  | y :: ys, h => by
    obtain ⟨t, rfl⟩ := h y List.mem_cons_self
    obtain ⟨us, rfl⟩ := all_refs fun z hz => h z (List.mem_cons_of_mem _ hz)
    exact ⟨t :: us, rfl⟩
/-- what sorted tells of them -/
theorem Trip.sorted {H : Hp} {ts : List Addr} {L : List T3} {ys : List V} (t : Trip H ts L) (hp : ys.Perm (ts.map V.ref)) : ∃ us : List Addr, ys = us.map V.ref ∧ Trip H us (ys.map (keyOf H)) ∧ (ys.map (keyOf H)).Perm L := by
  obtain ⟨us, rfl⟩ := all_refs fun y hy => by
    obtain ⟨a, _, e⟩ := List.mem_map.mp (hp.mem_iff.mp hy)
    exact ⟨a, e.symm⟩
  refine ⟨us, rfl, ⟨by rw [List.length_map, List.length_map], fun j a x h1 h2 => ?_⟩, ?_⟩
  · rw [List.getElem?_map, List.getElem?_map, h1] at h2
    obtain rfl := Option.some.inj h2
    have m : V.ref a ∈ us.map V.ref := List.mem_map.mpr ⟨a, List.mem_of_getElem? h1, rfl⟩
    obtain ⟨b, hb, e⟩ := List.mem_map.mp (hp.mem_iff.mp m)
    cases e
    exact t.mem hb
  · have := hp.map (keyOf H)
    rw [t.keys] at this
    exact this
end
end Tri
namespace Sp
open PySem L2 Tri
def spOrder (K : PySem.W.Frag) : L2.Sp := fun vs H Q _ => ∃ (p q : Addr) (ns ms : List Int), vs = [.ref p, .ref q] ∧ SqL K H p (ns.map V.int) ∧ SqL K H q (ms.map V.int) ∧ ns.length ≤ 300 ∧ ms.length ≤ 300 ∧
  ∀ (r : Addr) (ts : List Addr) (L : List T3) (H' : Hp), Same H H' → H r = none → H' r = some (.lst (ts.map V.ref)) → Trip H' ts L → Ord ns ms L → Q (.ref r) H'
theorem take_all_rows (ns ms : List Int) : allP (ns.take ns.length) 0 ms = allP ns 0 ms := by rw [take_all]
/-- a tuple of names as a comprehension's target: the written part and the length by name -/
theorem pg_tupK {X : Cx} {K : PySem.W.Frag} {es : List Expr} {k : Nat} {pos : Pos} {t : TGs} {n : Nat} (hK : X.K = K) (hc : X.calm = true) (h : PGs X es t) (hn : (assignEach es X.env).length = n) (hst : (assignEach es X.env).findIdx? (·.1) = none) : PG X (.Tuple es k pos) (gTup K n t) := hK ▸ pg_tup hc h hn hst
/-! ### what the laws of the order promise -/
def tri (w : T3) : List V := [.int w.1, .int w.2.1, .int w.2.2]
abbrev dt (w : T3) : PyData := .tuple [.int w.1, .int w.2.1, .int w.2.2]
structure Sml (w : T3) : Prop where
  a : w.1.natAbs.log2 < 60
  b : w.2.1.natAbs.log2 < 60
  c : w.2.2.natAbs.log2 < 60
theorem dp_tri {K : PySem.W.Frag} {H : Hp} {t : Addr} {w : T3} (h : H t = some (.tup (tri w))) : Dp K H (.ref t) (dt w) := .tup (.inl (.inl h)) (.cons (.int _) (.cons (.int _) (.cons (.int _) .nil)))
theorem lay_tri (w : T3) : PyData.canLay0 (dt w) = true := by simp only [PyData.canLay0, PyData.canLayAll0]; rfl
theorem shaped_tri (w : T3) : SeqAt.shaped (dt w) = true := by
  unfold SeqAt.shaped
  rw [lay_tri]
  simp only [PyData.depth, PyData.depthAll]
  rfl
theorem shown_tri {w : T3} (h : Sml w) : (dt w).showable = true ∧ (dt w).hasDict = false ∧ (dt w).shown.length ≤ sizeLine ∧ (dt w).depth ≤ 60 := by
  obtain ⟨h1, h2, h3⟩ := Gd.show_ints [w.1, w.2.1, w.2.2] (by
    intro n hn
    simp only [List.mem_cons, List.not_mem_nil, or_false] at hn
    rcases hn with rfl | rfl | rfl
    · exact h.a
    · exact h.b
    · exact h.c)
  refine ⟨?_, PyData.hasDict_of_canLay _ (lay_tri w), ?_, ?_⟩
  · rw [PyData.showable]; exact h1
  · have := PyData.shown_le 61 (by decide) (dt w) (by rw [PyData.leavesShort]; exact h2)
    rw [PyData.weight] at this
    have e : sizeLine = 16777216 := by decide
    have e2 : PyData.weightAll [PyData.int w.1, .int w.2.1, .int w.2.2] ≤ 61 * 3 := h3
    omega
  · simp only [PyData.depth, PyData.depthAll]; decide
/-- a tuple as it should be, or None as it should be -/
def spTuple : L2.Sp := fun vs H Q _ => (vs = [.non, .non] ∨ ∃ (t u : Addr) (w : T3), vs = [.ref t, .ref u] ∧ H t = some (.tup (tri w)) ∧ H u = some (.tup (tri w)) ∧ Sml w) ∧ Q (.bl true) H
/-- the so-manieth pair -/
def spSumAt (K : PySem.W.Frag) : L2.Sp := fun vs H Q _ => ∃ (p q : Addr) (ns ms : List Int) (n : Nat) (L : List T3) (w : T3), vs = [.ref p, .ref q, .int (n : Int)] ∧ SqL K H p (ns.map V.int) ∧ SqL K H q (ms.map V.int) ∧ ns.Pairwise (· ≤ ·) ∧ ms.Pairwise (· ≤ ·) ∧ ns.length ≤ 1000 ∧ ms.length ≤ 1000 ∧
  Ord ns ms L ∧ L[n]? = some w ∧ ∀ (t : Addr) (H' : Hp), Same H H' → H' t = some (.tup (tri w)) → Q (.ref t) H'
/-- places that are asked for -/
def spPlaces : L2.Sp := fun vs H Q _ => ∃ (a d : Addr) (ts : List Addr) (L : List T3), vs = [.ref a, .ref d] ∧ HandAt H a ∧ d ≠ a ∧ H d = some (.lst (ts.map V.ref)) ∧ Trip H ts L ∧ L.length ≤ 90000 ∧
  ∀ (r : Addr) (ps : List Int) (H' : Hp), Ext a H H' → H r = none → H' r = some (.lst (ps.map V.int)) → (∀ n ∈ ps, 0 ≤ n ∧ n < L.length) → Q (.ref r) H'
theorem Trip.ext {a : Addr} {H H' : Hp} {ts : List Addr} {L : List T3} (t : Trip H ts L) (h : HandAt H a) (e : Ext a H H') : Trip H' ts L := ⟨t.len, fun j b x h1 h2 => by
  have g := t.at_ j b x h1 h2
  obtain ⟨u, v, hh, _⟩ := h
  exact e.keep _ _ g fun z => by rw [z, hh] at g; cases g⟩
theorem rgV_ints (n : Nat) : rgV 0 (n : Int) = ((List.range n).map fun (k : Nat) => (k : Int)).map V.int := by
  unfold rgV
  rw [List.map_map, show ((n : Int) - 0).toNat = n from by omega]
  refine List.map_congr_left fun k _ => ?_
  show V.int (0 + (k : Int)) = V.int (k : Int)
  rw [Int.zero_add]
theorem eqv_tri (w : T3) : PyData.eqv (dt w) (dt w) = true := by
  rw [PyData.eqv]
  refine eqvAll_same fun x hx => ?_
  simp only [List.mem_cons, List.not_mem_nil, or_false] at hx
  rcases hx with rfl | rfl | rfl <;> simp [PyData.eqv]
theorem log_of {n : Int} (h1 : -1000000000000000000 < n) (h2 : n < 1000000000000000000) : n.natAbs.log2 < 60 := by
  by_cases h0 : n.natAbs = 0
  · rw [h0]; decide
  · exact (Nat.log2_lt h0).mpr (by omega)
theorem ord_small {ns ms : List Int} {L : List T3} (o : Ord ns ms L) (fn : Fine ns) (fm : Fine ms) (l1 : ns.length ≤ 1000) (l2 : ms.length ≤ 1000) {n : Nat} {w : T3} (h : L[n]? = some w) : Sml w := by
  obtain ⟨i, j, x, y, hx, hy, rfl⟩ := allP_mem.mp (o.perm.mem_iff.mp (List.mem_of_getElem? h))
  have h1 := (List.getElem?_eq_some_iff.mp hx).1
  have h2 := (List.getElem?_eq_some_iff.mp hy).1
  have b1 := fn.2 x (List.mem_of_getElem? hx)
  have b2 := fm.2 y (List.mem_of_getElem? hy)
  exact ⟨log_of (by show _ < x + y; omega) (by show x + y < _; omega), log_of (by show _ < ((0 + i : Nat) : Int); omega) (by show ((0 + i : Nat) : Int) < _; omega), log_of (by show _ < (j : Int); omega) (by show (j : Int) < _; omega)⟩
end Sp

namespace Sp
open PySem L2
/-! ### differences: the rows of these laws -/
def spNumber : L2.Sp := fun vs H Q _ => ∃ (a : Addr) (k x y : Int), vs = [.ref a, .int k, .int x, .int y] ∧ HandAt H a ∧ (-100 ≤ x ∧ x ≤ 100) ∧ (0 ≤ y ∧ y ≤ 300000000000000) ∧
  ∀ (r : Int) (H' : Hp), Ext a H H' → -1000000000000000 ≤ r → r ≤ 1000000000000000 → Q (.int r) H'
def spRow21 : L2.Sp := fun vs H Q _ => ∃ (a : Addr) (n : Nat), vs = [.ref a, .int (n : Int)] ∧ HandAt H a ∧ n ≤ 300 ∧ ∀ (p : Addr) (ns : List Int) (H' : Hp), Ext a H H' → H p = none → H' p = some (.lst (ns.map V.int)) → ns.length ≤ 300 → Fine ns → Q (.ref p) H'
def spSize : L2.Sp := fun vs H Q _ => ∃ (a : Addr) (k : Int), vs = [.ref a, .int k, .int 300] ∧ HandAt H a ∧ ∀ (n : Nat) (H' : Hp), Ext a H H' → n ≤ 300 → Q (.int (n : Int)) H'
def spTwo21 : L2.Sp := fun vs H Q _ => ∃ (a : Addr) (k : Int), vs = [.ref a, .int k] ∧ HandAt H a ∧
  ∀ (t p q : Addr) (ns ms : List Int) (H' : Hp), Ext a H H' → H' t = some (.lst [.ref p, .ref q]) → t ≠ a → RowAt H' a p ns → RowAt H' a q ms → H p = none → H q = none → Q (.ref t) H'
theorem cut_to (xs : List V) (n : Nat) : (cutV xs none (some (n : Int))).length ≤ n := by
  unfold cutV
  rw [List.length_take]
  refine Nat.le_trans (Nat.min_le_left _ _) (Nat.le_trans (Nat.sub_le _ _) ?_)
  simp only [HT.sIx]
  first | omega | (split <;> omega) | (split <;> split <;> omega)
/-- how many differences, first less second, are below n -/
def cntD (ns ms : List Int) (n : Int) : Nat := (ns.map fun x => ms.countP fun y => decide (x - y < n)).sum
theorem cntD_snoc (ns ms : List Int) (x n : Int) : cntD (ns ++ [x]) ms n = cntD ns ms n + ms.countP fun y => decide (x - y < n) := by
  unfold cntD
  rw [List.map_append, List.sum_append]
  rfl
def spDiff (K : PySem.W.Frag) : L2.Sp := fun vs H Q _ => ∃ (p q : Addr) (ns ms : List Int) (n : Int), vs = [.ref p, .ref q, .int n] ∧ SqL K H p (ns.map V.int) ∧ SqL K H q (ms.map V.int) ∧ ns.Pairwise (· ≤ ·) ∧ ms.Pairwise (· ≤ ·) ∧ ns.length ≤ 1000 ∧ ms.length ≤ 1000 ∧
  ∀ H', Same H H' → Q (.int (cntD ns ms n : Nat)) H'
def spAsked21 (K : PySem.W.Frag) : L2.Sp := fun vs H Q _ => ∃ (a s : Addr) (xs : List Int), vs = [.ref a, .ref s] ∧ HandAt H a ∧ s ≠ a ∧ H s = some (.lst (xs.map V.int)) ∧ 0 < xs.length ∧ xs.length ≤ 1000 ∧ (∀ x ∈ xs, -(2 ^ 60) < x ∧ x < 2 ^ 60) ∧
  ∀ (r : Addr) (zs : List Int) (H' : Hp), Ext a H H' → H r = none → H' r = some (.lst (zs.map V.int)) → zs.length ≤ 9 → Q (.ref r) H'
def spRight21 (K : PySem.W.Frag) : L2.Sp := fun vs H Q _ => ∃ (p q : Addr) (ns ms : List Int) (n : Int), vs = [.ref p, .ref q, .int n] ∧ SqL K H p (ns.map V.int) ∧ SqL K H q (ms.map V.int) ∧ ns.Pairwise (· ≤ ·) ∧ ms.Pairwise (· ≤ ·) ∧ ns.length ≤ 300 ∧ ms.length ≤ 300 ∧ ∀ H', Same H H' → Q (.bl true) H'
theorem cut_from (xs : List V) (k : Nat) : cutV xs (some (k : Int)) none = xs.drop k := by
  unfold cutV
  rw [HT.sIx_nat, HT.sIx_none]
  by_cases h : k ≤ xs.length
  · rw [Nat.min_eq_left h]
    exact List.take_of_length_le (by rw [List.length_drop]; exact Nat.le_refl _)
  · rw [Nat.min_eq_right (by omega), List.drop_of_length_le (Nat.le_refl _), List.drop_of_length_le (by omega), List.take_nil]
/-- how many differences within a row, a later one less an earlier one, are below n -/
def cntW : List Int → Int → Nat
  | [], _ => 0
  | x :: xs, n => (xs.countP fun y => decide (y - x < n)) + cntW xs n
theorem cntW_drop {ns : List Int} {i : Nat} {x : Int} (n : Int) (h : ns[i]? = some x) : cntW (ns.drop i) n = ((ns.drop (i + 1)).countP fun y => decide (y - x < n)) + cntW (ns.drop (i + 1)) n := by
  have hl := (List.getElem?_eq_some_iff.mp h).1
  have e : ns.drop i = x :: ns.drop (i + 1) := by
    rw [List.drop_eq_getElem_cons hl, (List.getElem?_eq_some_iff.mp h).2]
  rw [e]
  rfl
def spWith (K : PySem.W.Frag) : L2.Sp := fun vs H Q _ => ∃ (p : Addr) (ns : List Int) (n : Int), vs = [.ref p, .int n] ∧ SqL K H p (ns.map V.int) ∧ ns.Pairwise (· ≤ ·) ∧ ns.length ≤ 1000 ∧ ∀ H', Same H H' → Q (.int (cntW ns n : Nat)) H'
def spRight23 (K : PySem.W.Frag) : L2.Sp := fun vs H Q _ => ∃ (p : Addr) (ns : List Int) (n : Int), vs = [.ref p, .int n] ∧ SqL K H p (ns.map V.int) ∧ ns.Pairwise (· ≤ ·) ∧ ns.length ≤ 300 ∧ ∀ H', Same H H' → Q (.bl true) H'
/-! ### the order of the differences -/
open Tri
theorem rowP_nodup (x : Int) (i : Nat) : ∀ (ms : List Int) (j : Nat), (rowP x i ms j).Nodup
  | [], _ => List.nodup_nil
  | y :: ms, j => by
    show (_ :: rowP x i ms (j + 1)).Nodup
    refine List.nodup_cons.mpr ⟨fun h => ?_, rowP_nodup x i ms (j + 1)⟩
    obtain ⟨n, z, _, e⟩ := rowP_mem.mp h
    have e3 : (j : Int) = ((j + 1 + n : Nat) : Int) := congrArg (fun t : T3 => t.2.2) e
    omega
theorem allP_nodup (ms : List Int) : ∀ (ns : List Int) (i : Nat), (allP ns i ms).Nodup
  | [], _ => List.nodup_nil
  | x :: ns, i => by
    show (rowP x i ms 0 ++ allP ns (i + 1) ms).Nodup
    refine List.nodup_append.mpr ⟨rowP_nodup x i ms 0, allP_nodup ms ns (i + 1), fun a ha b hb e => ?_⟩
    obtain ⟨n, y, _, e1⟩ := rowP_mem.mp ha
    obtain ⟨m, k, u, v, _, _, e2⟩ := allP_mem.mp hb
    rw [e1, e2] at e
    have e3 : (i : Int) = ((i + 1 + m : Nat) : Int) := congrArg (fun t : T3 => t.2.1) e
    omega
theorem ord_exists (ns ms : List Int) : ∃ L, Tri.Ord ns ms L := by
  refine ⟨(allP ns 0 ms).mergeSort fun a b => !bef b a, List.mergeSort_perm _ _, ?_⟩
  refine (List.pairwise_mergeSort (le := fun a b => !bef b a) (fun a b c h1 h2 => ?_) (fun a b => ?_) (allP ns 0 ms)).imp fun {a b} h => ?_
  · have q1 : ¬ before b a := fun z => by rw [bef_yes.mpr z] at h1; cases h1
    have q2 : ¬ before c b := fun z => by rw [bef_yes.mpr z] at h2; cases h2
    have q3 : ¬ before c a := by unfold before at *; omega
    show (!bef c a) = true
    rw [bef_no.mpr q3]
    rfl
  · by_cases z : before b a
    · have z2 : ¬ before a b := by unfold before at *; omega
      rw [bef_no.mpr z2]
      simp
    · rw [bef_no.mpr z]
      simp
  · exact fun z => by rw [bef_yes.mpr z] at h; cases h
/-- what stands at a place of the order, and which place that is -/
theorem ord_at {ns ms : List Int} {L : List T3} (o : Tri.Ord ns ms L) {n : Nat} {w : T3} (h : L[n]? = some w) :
    ∃ (i j : Nat) (x y : Int), ns[i]? = some x ∧ ms[j]? = some y ∧ w = (x + y, (i : Int), (j : Int)) ∧ n = cntS ns ms (x + y) + ((ns.take i).map fun z => ms.count (x + y - z)).sum + (ms.take j).count y := by
  obtain ⟨i, j, x, y, hx, hy, rfl⟩ := allP_mem.mp (o.perm.mem_iff.mp (List.mem_of_getElem? h))
  rw [Nat.zero_add] at h ⊢
  refine ⟨i, j, x, y, hx, hy, rfl, ?_⟩
  have h2 := o.place hx hy
  have nd : L.Nodup := o.perm.nodup_iff.mpr (allP_nodup ms ns 0)
  obtain ⟨k1, e1⟩ := List.getElem?_eq_some_iff.mp h
  obtain ⟨k2, e2⟩ := List.getElem?_eq_some_iff.mp h2
  have e := e1.trans e2.symm
  rcases Nat.lt_trichotomy n (cntS ns ms (x + y) + ((ns.take i).map fun z => ms.count (x + y - z)).sum + (ms.take j).count y) with c | c | c
  · exact absurd e (List.pairwise_iff_getElem.mp nd _ _ k1 k2 c)
  · exact c
  · exact absurd e.symm (List.pairwise_iff_getElem.mp nd _ _ k2 k1 c)
def negs (ms : List Int) : List Int := ms.map fun y => 0 - y
def spDiffAt (K : PySem.W.Frag) : L2.Sp := fun vs H Q _ => ∃ (p q : Addr) (ns ms : List Int) (n : Nat) (L : List T3) (w : T3), vs = [.ref p, .ref q, .int (n : Int)] ∧ SqL K H p (ns.map V.int) ∧ SqL K H q (ms.map V.int) ∧ ns.Pairwise (· ≤ ·) ∧ ms.Pairwise (· ≤ ·) ∧ ns.length ≤ 1000 ∧ ms.length ≤ 1000 ∧
  Tri.Ord ns (negs ms) L ∧ L[n]? = some w ∧ ∀ (t : Addr) (H' : Hp), Same H H' → H' t = some (.tup (tri w)) → Q (.ref t) H'
def spTriple : L2.Sp := fun vs H Q _ => ∃ (t u : Addr) (w : T3), vs = [.ref t, .ref u] ∧ H t = some (.tup (tri w)) ∧ H u = some (.tup (tri w)) ∧ ∀ H', Same H H' → Q (.bl true) H'
theorem call_isiK {X : Cx} {K : PySem.W.Frag} (hK : X.K = K) : CallR X (.builtin "isinstance") (rIsi K) := hK ▸ call_isi
/-- how many pairs stand ahead of a pair, by the law's own count -/
def spAhead (K : PySem.W.Frag) : L2.Sp := fun vs H Q _ => ∃ (p q u : Addr) (ns ms : List Int) (i j : Nat) (x y : Int), vs = [.ref p, .ref q, .ref u] ∧ SqL K H p (ns.map V.int) ∧ SqL K H q (ms.map V.int) ∧ H u = some (.tup [.int (i : Int), .int (j : Int)]) ∧ ns.length ≤ 1000 ∧ ms.length ≤ 1000 ∧ ns[i]? = some x ∧ ms[j]? = some y ∧
  ∀ H', Same H H' → Q (.int ((cntD ns ms (x - y) + ((ns.take i).map fun z => ms.countP fun v => decide (z - v = x - y)).sum + (ms.take j).countP fun v => decide (x - v = x - y) : Nat) : Int)) H'
theorem cut_take (xs : List V) (k : Nat) : cutV xs none (some (k : Int)) = xs.take k := by
  unfold cutV
  rw [HT.sIx_nat, HT.sIx_none, List.drop_zero, Nat.sub_zero]
  by_cases h : k ≤ xs.length
  · rw [Nat.min_eq_left h]
  · rw [Nat.min_eq_right (by omega), List.take_of_length_le (Nat.le_refl _), List.take_of_length_le (by omega)]
def spRight22 (K : PySem.W.Frag) : L2.Sp := fun vs H Q _ => ∃ (p q : Addr) (ns ms : List Int) (n : Nat), vs = [.ref p, .ref q, .int (n : Int)] ∧ SqL K H p (ns.map V.int) ∧ SqL K H q (ms.map V.int) ∧ ns.Pairwise (· ≤ ·) ∧ ms.Pairwise (· ≤ ·) ∧ ns.length ≤ 300 ∧ ms.length ≤ 300 ∧ n < ns.length * ms.length ∧
  ∀ H', Same H H' → Q (.bl true) H'
theorem negs_at {ms : List Int} {j : Nat} {y : Int} (h : (negs ms)[j]? = some y) : ms[j]? = some (0 - y) := by
  unfold negs at h
  rw [List.getElem?_map] at h
  cases e : ms[j]? with
  | none => rw [e] at h; cases h
  | some z =>
    rw [e] at h
    obtain rfl : 0 - z = y := Option.some.inj h
    rw [show 0 - (0 - z) = z from by omega]
theorem negs_cnt (x n : Int) : ∀ ms : List Int, cntB (negs ms) (n - x) = ms.countP fun v => decide (x - v < n)
  | [] => rfl
  | y :: ms => by
    show cntB ((0 - y) :: negs ms) (n - x) = _
    rw [cntB_cons, negs_cnt x n ms, List.countP_cons]
    by_cases h : x - y < n
    · rw [if_pos (by omega), if_pos (by simpa using h)]
    · rw [if_neg (by omega), if_neg (by simpa using h)]
theorem negs_cntS (ms : List Int) (n : Int) : ∀ ns : List Int, cntS ns (negs ms) n = cntD ns ms n
  | [] => rfl
  | x :: ns => by
    rw [cntS_cons, negs_cnt, negs_cntS ms n ns]
    rfl
theorem negs_count (z n : Int) : ∀ ms : List Int, (negs ms).count (n - z) = ms.countP fun v => decide (z - v = n)
  | [] => rfl
  | y :: ms => by
    show ((0 - y) :: negs ms).count (n - z) = _
    rw [List.count_cons, negs_count z n ms, List.countP_cons]
    by_cases h : z - y = n
    · rw [if_pos (by simp; omega), if_pos (by simpa using h)]
    · rw [if_neg (by simp; omega), if_neg (by simpa using h)]
theorem negs_take (ms : List Int) (j : Nat) : (negs ms).take j = negs (ms.take j) := List.map_take.symm
theorem negs_len (ms : List Int) : (negs ms).length = ms.length := List.length_map _
/-- the place of a difference, by the law's own count -/
theorem diff_at {ns ms : List Int} {L : List Tri.T3} (o : Tri.Ord ns (negs ms) L) {n : Nat} {w : Tri.T3} (h : L[n]? = some w) :
    ∃ (i j : Nat) (x y : Int), ns[i]? = some x ∧ ms[j]? = some y ∧ w = (x - y, (i : Int), (j : Int)) ∧ n = cntD ns ms (x - y) + ((ns.take i).map fun z => ms.countP fun v => decide (z - v = x - y)).sum + (ms.take j).countP fun v => decide (x - v = x - y) := by
  obtain ⟨i, j, x, y, hx, hy, hw, hn⟩ := ord_at o h
  refine ⟨i, j, x, 0 - y, hx, negs_at hy, by rw [hw, show x - (0 - y) = x + y from by omega], ?_⟩
  rw [show x - (0 - y) = x + y from by omega, hn, negs_cntS, negs_take]
  have e1 : (negs (ms.take j)).count y = (ms.take j).countP fun v => decide (x - v = x + y) := by
    have := negs_count x (x + y) (ms.take j)
    rw [show x + y - x = y from by omega] at this
    exact this
  have e2 : (fun z => (negs ms).count (x + y - z)) = fun z => ms.countP fun v => decide (z - v = x + y) := funext fun z => negs_count z (x + y) ms
  rw [e1, e2]
end Sp

namespace Sp
open PySem L2 LamX Tri
/-! ### heaps where tables of code objects may grow -/
def NT : HO → Prop
  | .tbl _ => False
  | _ => True
theorem NT.ne {o : HO} (h : NT o) : ∀ ps, o ≠ .tbl ps := fun ps e => by
  subst e
  exact h
theorem nt_of {o : HO} (h : ∀ ps, o ≠ .tbl ps) : NT o := by
  cases o <;> first | exact trivial | exact absurd rfl (h _)
/-- all but the tables stays; the tables stay tables -/
structure Nx (T : List (Addr × Str)) (H H' : Hp) : Prop where
  of : ∀ b o, H b = some o → NT o → H' b = some o
  tabs : Tabs T H → Tabs T H'
section
variable {T : List (Addr × Str)} {K : PySem.W.Frag} {H H' H1 H2 : Hp} {a p : Addr} {ns : List Int} {xs : List V}
theorem Nx.g (n : Nx T H H') {b : Addr} {o : HO} (h : H b = some o) (t : NT o := by trivial) : H' b = some o := n.of b o h t
theorem Nx.refl : Nx T H H := ⟨fun _ _ h _ => h, fun h => h⟩
theorem Nx.trans (n : Nx T H H1) (m : Nx T H1 H2) : Nx T H H2 := ⟨fun b o h t => m.of b o (n.of b o h t) t, fun h => m.tabs (n.tabs h)⟩
theorem Nx.same (s : Same H H') : Nx T H H' := ⟨fun b o h _ => s b o h, fun h => h.ext s⟩
theorem Nx.mk2 (e : ExtN H H') (t : Tabs T H') : Nx T H H' := ⟨fun b o h n => e b o h n.ne, fun _ => t⟩
theorem Nx.seq (n : Nx T H H') (h : SqL K H p xs) : SqL K H' p xs := by
  rcases h with (h | ⟨o, h⟩) | h
  · exact .inl (.inl (n.g h))
  · exact .inl (.inr ⟨o, n.g h⟩)
  · exact .inr h
theorem Nx.row (n : Nx T H H') (r : RowAt H a p ns) : RowAt H' a p ns := ⟨n.g r.at_, r.ne, r.fine, r.len⟩
theorem Nx.nums (n : Nx T H H') (r : Nums H a p ns) : Nums H' a p ns := ⟨n.g r.1, r.2⟩
theorem Nx.hand (n : Nx T H H') (h : HandAt H a) : HandAt H' a := by
  obtain ⟨x, y, e, r⟩ := h
  exact ⟨x, y, n.g e, r⟩
theorem Nx.trip {ts : List Addr} {L : List T3} (n : Nx T H H') (t : Trip H ts L) : Trip H' ts L := ⟨t.len, fun j b x h1 h2 => n.g (t.at_ j b x h1 h2)⟩
/-- the same, the hand apart -/
structure Ex (T : List (Addr × Str)) (a : Addr) (H H' : Hp) : Prop where
  of : ∀ b o, H b = some o → NT o → b ≠ a → H' b = some o
  hand : HandAt H a → HandAt H' a
  tabs : Tabs T H → Tabs T H'
theorem Ex.nx (n : Nx T H H') : Ex T a H H' := ⟨fun b o h t _ => n.of b o h t, n.hand, n.tabs⟩
theorem Ex.same (s : Same H H') : Ex T a H H' := .nx (.same s)
theorem tabs_hand (h : HandAt H a) (e : Ext a H H') (t : Tabs T H) : Tabs T H' := fun q hq => by
  obtain ⟨x, y, e0, _⟩ := h
  obtain ⟨ps, h1, h2, h3⟩ := t q hq
  refine ⟨ps, e.keep _ _ h1 (fun z => ?_), h2, fun pos cv hc => ?_⟩
  · rw [z, e0] at h1
    cases h1
  · obtain ⟨c, c1, c2⟩ := h3 pos cv hc
    refine ⟨c, c1, e.keep _ _ c2 fun z => ?_⟩
    rw [z, e0] at c2
    unfold CodeO at c2
    cases c2
theorem Ex.ext (e : Ext a H H') (h : HandAt H a) : Ex T a H H' := ⟨fun b o q _ n => e.keep b o q n, e.hand, tabs_hand h e⟩
theorem Ex.trans (e : Ex T a H H1) (f : Ex T a H1 H2) : Ex T a H H2 := ⟨fun b o h t n => f.of b o (e.of b o h t n) t n, fun h => f.hand (e.hand h), fun h => f.tabs (e.tabs h)⟩
theorem Ex.made (e : Ex T a H H') (n : H a = none) : Nx T H H' := ⟨fun b o h t => e.of b o h t (fun z => by rw [z, n] at h; cases h), e.tabs⟩
end
/-! ### the search, spans, pairs -/
def spCheck : L2.Sp := fun vs H Q _ => ∃ n m : Int, vs = [.int n, .int m] ∧ 0 ≤ n ∧ n < m ∧ Q .non H
def spBare (K : PySem.W.Frag) (T : List (Addr × Str)) : L2.Sp := fun vs H Q _ => ∃ (p q : Addr) (ns ms : List Int) (n : Nat), vs = [.ref p, .ref q, .int (n : Int)] ∧ SqL K H p (ns.map V.int) ∧ SqL K H q (ms.map V.int) ∧ ns.Pairwise (· ≤ ·) ∧ ms.Pairwise (· ≤ ·) ∧ n < ns.length * ms.length ∧ Tabs T H ∧
  ∀ (r : Int) (H' : Hp), Nx T H H' → cntS ns ms r ≤ n → n < cntS ns ms (r + 1) → Q (.int r) H'
def spSpan (K : PySem.W.Frag) : L2.Sp := fun vs H Q _ => ∃ (p : Addr) (ns : List Int) (n : Int), vs = [.ref p, .int n] ∧ SqL K H p (ns.map V.int) ∧ ns.Pairwise (· ≤ ·) ∧
  ∀ t, H t = none → Q (.ref t) (upd H t (.tup [.int (cntB ns n : Nat), .int (cntB ns (n + 1) : Nat)]))
/-- spans: where each begins and how long it is -/
structure Spn (H : Hp) (ts : List Addr) (ws : List (Nat × Nat)) : Prop where
  len : ts.length = ws.length
  at_ : ∀ (i : Nat) (t : Addr) (b c : Nat), ts[i]? = some t → ws[i]? = some (b, c) → H t = some (.tup [.int (b : Int), .int ((b : Int) + (c : Int))])
theorem Spn.up {H H' : Hp} {ts : List Addr} {ws : List (Nat × Nat)} (s : Spn H ts ws) (k : Same H H') : Spn H' ts ws := ⟨s.len, fun i t b c h1 h2 => k _ _ (s.at_ i t b c h1 h2)⟩
abbrev lenOf (ws : List (Nat × Nat)) : Nat := (ws.map (·.2)).sum
def spPairAt (K : PySem.W.Frag) : L2.Sp := fun vs H Q _ => ∃ (p : Addr) (ts : List Addr) (ws : List (Nat × Nat)) (n : Nat), vs = [.ref p, .int (n : Int)] ∧ SqL K H p (ts.map V.ref) ∧ Spn H ts ws ∧ n < lenOf ws ∧
  ∀ (i b c k : Nat), ws[i]? = some (b, c) → k < c → n = lenOf (ws.take i) + k → ∀ t, H t = none → Q (.ref t) (upd H t (.tup [.int (i : Int), .int ((b : Int) + (k : Int))]))
theorem lenOf_cons (w : Nat × Nat) (ws : List (Nat × Nat)) : lenOf (w :: ws) = w.2 + lenOf ws := by
  show (List.map _ (w :: ws)).sum = _
  rw [List.map_cons, List.sum_cons]
theorem lenOf_append (us ws : List (Nat × Nat)) : lenOf (us ++ ws) = lenOf us + lenOf ws := by
  show (List.map _ (us ++ ws)).sum = _
  rw [List.map_append, List.sum_append]
theorem lenOf_take {ws : List (Nat × Nat)} {i b c : Nat} (h : ws[i]? = some (b, c)) : lenOf (ws.take (i + 1)) = lenOf (ws.take i) + c := by
  rw [take_snoc h, lenOf_append]
  rfl
theorem lenOf_le (ws : List (Nat × Nat)) (i : Nat) : lenOf (ws.take i) ≤ lenOf ws := by
  have h := congrArg lenOf (List.take_append_drop i ws)
  rw [lenOf_append] at h
  omega
/-! ### counts -/
theorem cntB_none {ms : List Int} {n : Int} (h : ∀ y ∈ ms, n ≤ y) : cntB ms n = 0 := by
  unfold cntB
  rw [List.countP_eq_zero]
  intro y hy
  have := h y hy
  simp
  omega
theorem cntS_none {ns ms : List Int} {n : Int} (h : ∀ x ∈ ns, ∀ y ∈ ms, n ≤ x + y) : cntS ns ms n = 0 := by
  induction ns with
  | nil => rfl
  | cons x ns ih =>
    rw [cntS_cons, ih fun z hz => h z (List.mem_cons_of_mem _ hz), cntB_none fun y hy => by have := h x List.mem_cons_self y hy; omega]
theorem cntS_next (ms : List Int) (n : Int) : ∀ ns : List Int, cntS ns ms (n + 1) = cntS ns ms n + (ns.map fun z => ms.count (n - z)).sum
  | [] => rfl
  | x :: ns => by
    rw [cntS_cons, cntS_cons, cntS_next ms n ns, show n + 1 - x = n - x + 1 from by omega, cntB_next, List.map_cons, List.sum_cons]
    omega
/-- the k-th of the likes of v in a sorted row stands at so many below v, and k more -/
theorem like_at {ms : List Int} (hs : ms.Pairwise (· ≤ ·)) {v : Int} {k : Nat} (h : k < ms.count v) : ms[cntB ms v + k]? = some v ∧ (ms.take (cntB ms v + k)).count v = k := by
  have hn := cntB_next ms v
  have le := cntB_le ms (v + 1)
  have lt : cntB ms v + k < ms.length := by omega
  have at_ : ∀ j, cntB ms v ≤ j → j < cntB ms v + ms.count v → ms[j]? = some v := fun j h1 h2 => by
    obtain ⟨y, hy⟩ : ∃ y, ms[j]? = some y := ⟨_, List.getElem?_eq_getElem (by omega)⟩
    have k1 := cntB_lt (n := v) hs hy
    have k2 := cntB_lt (n := v + 1) hs hy
    have k3 : ¬ y < v := fun z => by have := k1.mp z; omega
    have k4 : y < v + 1 := k2.mpr (by omega)
    rw [hy, show y = v from by omega]
  refine ⟨at_ _ (by omega) (by omega), ?_⟩
  have low : (ms.take (cntB ms v)).count v = 0 := by
    rw [List.count_eq_zero]
    intro m
    obtain ⟨j, hj⟩ := List.mem_iff_getElem?.mp m
    rw [List.getElem?_take] at hj
    split at hj
    · rename_i c
      have := (cntB_lt (n := v) hs hj).mpr c
      omega
    · cases hj
  have step : ∀ j, j ≤ k → (ms.take (cntB ms v + j)).count v = j := by
    intro j
    induction j with
    | zero => intro _; exact low
    | succ j ih =>
      intro hj
      rw [show cntB ms v + (j + 1) = (cntB ms v + j) + 1 from by omega, take_snoc (at_ (cntB ms v + j) (by omega) (by omega)), List.count_append, ih (by omega)]
      simp
  exact step k (Nat.le_refl _)
/-- the so-manieth pair -/
def spSumT (K : PySem.W.Frag) (T : List (Addr × Str)) : L2.Sp := fun vs H Q _ => ∃ (p q : Addr) (ns ms : List Int) (n : Nat) (L : List T3) (w : T3), vs = [.ref p, .ref q, .int (n : Int)] ∧ SqL K H p (ns.map V.int) ∧ SqL K H q (ms.map V.int) ∧ ns.Pairwise (· ≤ ·) ∧ ms.Pairwise (· ≤ ·) ∧ ns.length ≤ 1000 ∧ ms.length ≤ 1000 ∧ Tabs T H ∧
  Tri.Ord ns ms L ∧ L[n]? = some w ∧ ∀ (t : Addr) (H' : Hp), Nx T H H' → H' t = some (.tup (tri w)) → Q (.ref t) H'
/-- from the search and the spans to what stands at a place -/
theorem sum_found {ns ms : List Int} {L : List T3} (o : Tri.Ord ns ms L) (sm : ms.Pairwise (· ≤ ·)) {n : Nat} {r : Int} {i k : Nat} {x : Int} (hx : ns[i]? = some x) (hk : k < ms.count (r - x)) (hn : n = cntS ns ms r + (((ns.take i).map fun z => ms.count (r - z)).sum + k)) :
    L[n]? = some (r, (i : Int), ((cntB ms (r - x) + k : Nat) : Int)) := by
  obtain ⟨h1, h2⟩ := like_at sm hk
  have := o.place hx h1
  rw [show x + (r - x) = r from by omega, h2] at this
  rw [hn]
  rw [show cntS ns ms r + (((ns.take i).map fun z => ms.count (r - z)).sum + k) = cntS ns ms r + ((ns.take i).map fun z => ms.count (r - z)).sum + k from by omega]
  exact this
/-- the law's head: the script, and the tables -/
def spLawT (K : PySem.W.Frag) (T : List (Addr × Str)) : L2.Sp := fun vs H Q _ => ∃ (a : Addr) (ns : List Int), vs = [.ref a] ∧ SqL K H a (ns.map V.int) ∧ ns.length ≤ 63 ∧ Tabs T H ∧ ∀ H', Q (.bl true) H'
end Sp
namespace Sp
open PySem L2 LamX Tri
/-! ### differences -/
theorem negs_count2 (v : Int) : ∀ ms : List Int, (negs ms).count (0 - v) = ms.count v
  | [] => rfl
  | y :: ms => by
    show ((0 - y) :: negs ms).count (0 - v) = _
    rw [List.count_cons, List.count_cons, negs_count2 v ms]
    by_cases h : y = v
    · rw [if_pos (by simp [h]), if_pos (by simp [h])]
    · rw [if_neg (by simp; omega), if_neg (by simpa using h)]
theorem diff_found {ns ms : List Int} {L : List T3} (o : Tri.Ord ns (negs ms) L) (sm : ms.Pairwise (· ≤ ·)) {n : Nat} {r : Int} {i k : Nat} {x : Int} (hx : ns[i]? = some x) (hk : k < ms.count (x - r)) (hn : n = cntD ns ms r + (((ns.take i).map fun z => ms.count (z - r)).sum + k)) :
    L[n]? = some (r, (i : Int), ((cntB ms (x - r) + k : Nat) : Int)) := by
  obtain ⟨h1, h2⟩ := like_at sm hk
  have h3 : (negs ms)[cntB ms (x - r) + k]? = some (0 - (x - r)) := by
    unfold negs
    rw [List.getElem?_map, h1]
    rfl
  have := o.place hx h3
  rw [show x + (0 - (x - r)) = r from by omega, negs_take, negs_count2, h2, negs_cntS] at this
  have e : (fun z => (negs ms).count (r - z)) = fun z => ms.count (z - r) := funext fun z => by rw [show r - z = 0 - (z - r) from by omega, negs_count2]
  rw [e] at this
  rw [hn, ← Nat.add_assoc]
  exact this
theorem cntD_next (ms : List Int) (n : Int) (ns : List Int) : cntD ns ms (n + 1) = cntD ns ms n + (ns.map fun z => ms.count (z - n)).sum := by
  have h := cntS_next (negs ms) n ns
  rw [negs_cntS, negs_cntS] at h
  have e : (fun z => (negs ms).count (n - z)) = fun z => ms.count (z - n) := funext fun z => by rw [show n - z = 0 - (z - n) from by omega, negs_count2]
  rw [e] at h
  exact h
def spDiffT (K : PySem.W.Frag) (T : List (Addr × Str)) : L2.Sp := fun vs H Q _ => ∃ (p q : Addr) (ns ms : List Int) (n : Nat) (L : List T3) (w : T3), vs = [.ref p, .ref q, .int (n : Int)] ∧ SqL K H p (ns.map V.int) ∧ SqL K H q (ms.map V.int) ∧ ns.Pairwise (· ≤ ·) ∧ ms.Pairwise (· ≤ ·) ∧ ns.length ≤ 1000 ∧ ms.length ≤ 1000 ∧ Tabs T H ∧
  Tri.Ord ns (negs ms) L ∧ L[n]? = some w ∧ ∀ (t : Addr) (H' : Hp), Nx T H H' → H' t = some (.tup (tri w)) → Q (.ref t) H'
def spRight22T (K : PySem.W.Frag) (T : List (Addr × Str)) : L2.Sp := fun vs H Q _ => ∃ (p q : Addr) (ns ms : List Int) (n : Nat), vs = [.ref p, .ref q, .int (n : Int)] ∧ SqL K H p (ns.map V.int) ∧ SqL K H q (ms.map V.int) ∧ ns.Pairwise (· ≤ ·) ∧ ms.Pairwise (· ≤ ·) ∧ ns.length ≤ 300 ∧ ms.length ≤ 300 ∧ n < ns.length * ms.length ∧ Tabs T H ∧
  ∀ H', Nx T H H' → Q (.bl true) H'
theorem turned_cntS (ms : List Int) (n : Int) (ns : List Int) : cntS ns (turned ms) n = cntD ns ms n := by
  have h : (turned ms).Perm (negs ms) := (List.reverse_perm ms).map _
  rw [← cntS_comm, cntS_perm h, cntS_comm, negs_cntS]
theorem turned_len (ms : List Int) : (turned ms).length = ms.length := by
  unfold turned
  rw [List.length_map, List.length_reverse]
end Sp

/-! three comparisons in one test -/
namespace Ch
open PySem PySem.Spec PyProof.Rows L2
def tChain3 (r1 r2 r3 : R2) (ta tb tc td : TE) : TT := fun σ H Q => ta σ H fun x H1 => tb σ H1 fun y H2 => r1 x y H2 fun z H3 => ∃ k, z = .bl k ∧
  (if k = true then tc σ H3 fun u H4 => r2 y u H4 fun z2 H5 => ∃ k2, z2 = .bl k2 ∧ (if k2 = true then td σ H5 fun v H6 => r3 u v H6 fun z3 H7 => ∃ k3, z3 = .bl k3 ∧ Q k3 H7 else Q false H5) else Q false H3)
theorem pt_chain3 {X : Cx} {a b c d : Expr} {ta tb tc td : TE} {pos : Pos} {o1 o2 o3 : CmpOp} {r1 r2 r3 : R2} (h1 : OpR X (compareOp o1) r1) (h2 : OpR X (compareOp o2) r2) (h3 : OpR X (compareOp o3) r3) (ha : PE X a ta) (hb : PE X b tb) (hc : PE X c tc) (hd : PE X d td)
    (hm : lastMarks [o1, o2, o3] [b, c, d] = false := by with_unfolding_all rfl) : PT X (.Compare a [o1, o2, o3] [b, c, d] pos) (tChain3 r1 r2 r3 ta tb tc td) := by
  refine ⟨fun pins s σ H Q I h => isTrue_chain (thn (ha.run pins s σ H _ I h) fun v s1 ⟨x, H1, I1, rx, q1⟩ => test_link (thn (hb.run pins s1 σ H1 _ I1 q1) fun u s2 ⟨y, H2, I2, ry, q2⟩ => thn (h1 pins s2 σ H2 x y v u _ I2 rx ry q2) fun e s3 ⟨z, H3, I3, rz, k, ez, q3⟩ => ?_)) hm⟩
  subst ez
  cases rz
  refine wpAny_truthy_bool ?_
  cases k with
  | false => exact ite_ff ⟨H3, I3, q3⟩
  | true =>
    refine ite_tt (test_link (thn (hc.run pins s3 σ H3 _ I3 q3) fun w s4 ⟨y2, H4, I4, r4, q4⟩ => thn (h2 pins s4 σ H4 y y2 u w _ I4 ry r4 q4) fun e2 s5 ⟨z2, H5, I5, rz2, k2, ez2, q5⟩ => ?_))
    subst ez2
    cases rz2
    refine wpAny_truthy_bool ?_
    cases k2 with
    | false => exact ite_ff ⟨H5, I5, q5⟩
    | true =>
      refine ite_tt (test_last (thn (hd.run pins s5 σ H5 _ I5 q5) fun w2 s6 ⟨y3, H6, I6, r6, q6⟩ => thn (h3 pins s6 σ H6 y2 y3 w w2 _ I6 r4 r6 q6) fun e3 s7 ⟨z3, H7, I7, rz3, k3, ez3, q7⟩ => ?_))
      subst ez3
      cases rz3
      exact wpAny_truthy_bool ⟨H7, I7, q7⟩
end Ch
namespace Sp
open PySem L2 LamX Tri
/-! ### within one row -/
theorem take_count {ms : List Int} (hs : ms.Pairwise (· ≤ ·)) (v : Int) : ∀ j, j ≤ ms.count v → (ms.take (cntB ms v + j)).count v = j
  | 0, _ => by
    rw [Nat.add_zero, List.count_eq_zero]
    intro m
    obtain ⟨j, hj⟩ := List.mem_iff_getElem?.mp m
    rw [List.getElem?_take] at hj
    split at hj
    · rename_i c
      have := (cntB_lt (n := v) hs hj).mpr c
      omega
    · cases hj
  | j + 1, h => by
    obtain ⟨h1, h2⟩ := like_at hs (v := v) (k := j) (by omega)
    rw [← Nat.add_assoc, take_snoc h1, List.count_append, h2]
    simp
/-- how many likes of v stand ahead of place k -/
theorem take_likes {ms : List Int} (hs : ms.Pairwise (· ≤ ·)) (v : Int) {k : Nat} (h : k ≤ cntB ms (v + 1)) : (ms.take k).count v = k - cntB ms v := by
  have hn := cntB_next ms v
  by_cases c : cntB ms v ≤ k
  · have := take_count hs v (k - cntB ms v) (by omega)
    rw [show cntB ms v + (k - cntB ms v) = k from by omega] at this
    exact this
  · have h0 := take_count hs v 0 (Nat.zero_le _)
    rw [Nat.add_zero] at h0
    have h1 : (ms.take k).count v ≤ (ms.take (cntB ms v)).count v := by
      have e : ms.take k = (ms.take (cntB ms v)).take k := by rw [List.take_take, Nat.min_eq_left (by omega)]
      rw [e]
      exact (List.take_sublist _ _).count_le _
    omega
theorem drop_likes {ms : List Int} (hs : ms.Pairwise (· ≤ ·)) (v : Int) {k : Nat} (h : k ≤ cntB ms (v + 1)) : (ms.drop k).count v = cntB ms (v + 1) - max (cntB ms v) k := by
  have hn := cntB_next ms v
  have h1 := take_likes hs v h
  have h2 : ms.count v = (ms.take k).count v + (ms.drop k).count v := by rw [← List.count_append, List.take_append_drop]
  omega
/-- likes of a first number's like by d, behind it, for the places ahead of i -/
def likeW (ns : List Int) (d : Int) (i : Nat) : Nat := ((List.range i).map fun a => (ns.drop (a + 1)).count (ns.getD a 0 + d)).sum
theorem likeW_succ {ns : List Int} {i : Nat} {x : Int} (d : Int) (h : ns[i]? = some x) : likeW ns d (i + 1) = likeW ns d i + (ns.drop (i + 1)).count (x + d) := by
  unfold likeW
  rw [List.range_succ, List.map_append, List.sum_append]
  have e : ns.getD i 0 = x := by rw [List.getD_eq_getElem?_getD, h]; rfl
  simp only [List.map_cons, List.map_nil, List.sum_cons, List.sum_nil, e]
  omega
theorem likeW_cons (x : Int) (xs : List Int) (d : Int) (i : Nat) : likeW (x :: xs) d (i + 1) = xs.count (x + d) + likeW xs d i := by
  unfold likeW
  rw [List.range_succ_eq_map, List.map_cons, List.sum_cons, List.map_map]
  rfl
theorem cntP_next (xs : List Int) (x d : Int) : (xs.countP fun y => decide (y - x < d + 1)) = (xs.countP fun y => decide (y - x < d)) + xs.count (x + d) := by
  induction xs with
  | nil => rfl
  | cons y xs ih =>
    rw [List.countP_cons, List.countP_cons, List.count_cons, ih]
    by_cases h : y - x < d
    · rw [if_pos (decide_eq_true (show y - x < d + 1 by omega)), if_pos (decide_eq_true h), if_neg (by simp; omega)]
      omega
    · by_cases h2 : y = x + d
      · rw [if_pos (decide_eq_true (show y - x < d + 1 by omega)), if_neg (by simpa using h), if_pos (by simp [h2])]
        omega
      · rw [if_neg (by simp; omega), if_neg (by simpa using h), if_neg (by simpa using h2)]
        omega
theorem cntW_next (d : Int) : ∀ ns : List Int, cntW ns (d + 1) = cntW ns d + likeW ns d ns.length
  | [] => rfl
  | x :: xs => by
    rw [List.length_cons, likeW_cons]
    show xs.countP _ + cntW xs (d + 1) = (xs.countP _ + cntW xs d) + _
    rw [cntP_next, cntW_next d xs]
    omega
theorem cntW_none : ∀ {ns : List Int}, ns.Pairwise (· ≤ ·) → cntW ns 0 = 0
  | [], _ => rfl
  | x :: xs, h => by
    obtain ⟨h1, h2⟩ := List.pairwise_cons.mp h
    show xs.countP _ + cntW xs 0 = 0
    rw [cntW_none h2, List.countP_eq_zero.mpr fun y hy => by have := h1 y hy; simp; omega]
theorem cntW_all {N : Int} : ∀ {ns : List Int}, (∀ x ∈ ns, ∀ y ∈ ns, y - x < N) → 2 * cntW ns N = ns.length * (ns.length - 1)
  | [], _ => rfl
  | x :: xs, h => by
    have e : (xs.countP fun y => decide (y - x < N)) = xs.length := List.countP_eq_length.mpr fun y hy => decide_eq_true (h x List.mem_cons_self y (List.mem_cons_of_mem _ hy))
    have ih := cntW_all (ns := xs) (N := N) fun a ha b hb => h a (List.mem_cons_of_mem _ ha) b (List.mem_cons_of_mem _ hb)
    show 2 * (xs.countP _ + cntW xs N) = _
    rw [e, List.length_cons, Nat.add_sub_cancel, Nat.mul_add, ih]
    cases hl : xs.length with
    | zero => rfl
    | succ m =>
      rw [Nat.add_sub_cancel]
      have : (m + 1) * m + 2 * (m + 1) = (m + 1 + 1) * (m + 1) := by
        rw [Nat.mul_comm (m + 1) m, ← Nat.add_mul]
      omega
/-- the place of a pair within a row -/
def aheadW (ns : List Int) (i j : Nat) (x d : Int) : Nat := cntW ns d + (likeW ns d i + ((ns.drop (i + 1)).take (j - (i + 1))).count (x + d))
theorem mid_likes {ms : List Int} (hs : ms.Pairwise (· ≤ ·)) (v : Int) {a j : Nat} (h : a ≤ j) (hj : j ≤ cntB ms (v + 1)) : ((ms.drop a).take (j - a)).count v = (j - cntB ms v) - (a - cntB ms v) := by
  have h1 := take_likes hs v (k := j) hj
  have h2 := take_likes hs v (k := a) (by omega)
  have e : ms.take j = ms.take a ++ (ms.drop a).take (j - a) := by
    rw [← List.take_add, show a + (j - a) = j from by omega]
  rw [e, List.count_append] at h1
  omega
/-- the spans of the later likes -/
def spansW (ns : List Int) (d : Int) : List (Nat × Nat) := (List.range ns.length).map fun a => (max (cntB ns (ns.getD a 0 + d)) (a + 1), (ns.drop (a + 1)).count (ns.getD a 0 + d))
theorem spansW_at {ns : List Int} {d : Int} {i : Nat} {x : Int} (h : ns[i]? = some x) : (spansW ns d)[i]? = some (max (cntB ns (x + d)) (i + 1), (ns.drop (i + 1)).count (x + d)) := by
  have hl := (List.getElem?_eq_some_iff.mp h).1
  unfold spansW
  rw [List.getElem?_map, List.getElem?_range hl]
  have e : ns.getD i 0 = x := by rw [List.getD_eq_getElem?_getD, h]; rfl
  show some (max (cntB ns (ns.getD i 0 + d)) (i + 1), (ns.drop (i + 1)).count (ns.getD i 0 + d)) = _
  rw [e]
theorem spansW_len (ns : List Int) (d : Int) : (spansW ns d).length = ns.length := by
  unfold spansW
  rw [List.length_map, List.length_range]
theorem spansW_take {ns : List Int} {d : Int} {i : Nat} (h : i ≤ ns.length) : lenOf ((spansW ns d).take i) = likeW ns d i := by
  unfold spansW likeW
  rw [← List.map_take, List.take_range, Nat.min_eq_left h]
  show (List.map _ (List.map _ _)).sum = _
  rw [List.map_map]
  rfl
theorem spansW_all (ns : List Int) (d : Int) : lenOf (spansW ns d) = likeW ns d ns.length := by
  have h := spansW_take (ns := ns) (d := d) (Nat.le_refl _)
  rw [← spansW_len ns d, List.take_length] at h
  rw [spansW_len] at h
  exact h
/-- a row's place: the later like at a span's place -/
theorem later_found {ns : List Int} (hs : ns.Pairwise (· ≤ ·)) {d : Int} {i k : Nat} {x : Int} (hd : 0 ≤ d) (hx : ns[i]? = some x) (hk : k < (ns.drop (i + 1)).count (x + d)) :
    i < max (cntB ns (x + d)) (i + 1) + k ∧ ns[max (cntB ns (x + d)) (i + 1) + k]? = some (x + d) ∧ ((ns.drop (i + 1)).take (max (cntB ns (x + d)) (i + 1) + k - (i + 1))).count (x + d) = k := by
  have hn := cntB_next ns (x + d)
  have hi : i + 1 ≤ cntB ns (x + d + 1) := by
    have := (cntB_lt (n := x + d + 1) hs hx).mp (by omega)
    omega
  have h1 := drop_likes hs (x + d) hi
  refine ⟨by omega, ?_, ?_⟩
  · have := (like_at hs (v := x + d) (k := max (cntB ns (x + d)) (i + 1) + k - cntB ns (x + d)) (by omega)).1
    rw [show cntB ns (x + d) + (max (cntB ns (x + d)) (i + 1) + k - cntB ns (x + d)) = max (cntB ns (x + d)) (i + 1) + k from by omega] at this
    exact this
  · rw [mid_likes hs (x + d) (by omega) (by omega)]
    omega
def spLater (K : PySem.W.Frag) : L2.Sp := fun vs H Q _ => ∃ (p : Addr) (ns : List Int) (d : Int), vs = [.ref p, .int d] ∧ SqL K H p (ns.map V.int) ∧ ns.Pairwise (· ≤ ·) ∧ ns.length ≤ 1000 ∧ 0 ≤ d ∧ ∀ (r : Addr) (ts : List Addr) (H' : Hp), Same H H' → H' r = some (.lst (ts.map V.ref)) → Spn H' ts (spansW ns d) → Q (.ref r) H'
def spWithT (K : PySem.W.Frag) (T : List (Addr × Str)) : L2.Sp := fun vs H Q _ => ∃ (p : Addr) (ns : List Int) (n : Nat), vs = [.ref p, .int (n : Int)] ∧ SqL K H p (ns.map V.int) ∧ ns.Pairwise (· ≤ ·) ∧ ns.length ≤ 1000 ∧ 2 * n < ns.length * (ns.length - 1) ∧ Tabs T H ∧
  ∀ (i j : Nat) (x d : Int) (t : Addr) (H' : Hp), i < j → ns[i]? = some x → ns[j]? = some (x + d) → n = aheadW ns i j x d → Nx T H H' → H' t = some (.tup (tri (d, (i : Int), (j : Int)))) → Q (.ref t) H'
def spAheadW (K : PySem.W.Frag) : L2.Sp := fun vs H Q _ => ∃ (p u : Addr) (ns : List Int) (i j : Nat) (x d : Int), vs = [.ref p, .ref u] ∧ SqL K H p (ns.map V.int) ∧ H u = some (.tup [.int (i : Int), .int (j : Int)]) ∧ ns.length ≤ 1000 ∧ i < j ∧ ns[i]? = some x ∧ ns[j]? = some (x + d) ∧
  ∀ H', Same H H' → Q (.int ((aheadW ns i j x d : Nat) : Int)) H'
def spRight24 (K : PySem.W.Frag) (T : List (Addr × Str)) : L2.Sp := fun vs H Q _ => ∃ (p : Addr) (ns : List Int) (n : Nat), vs = [.ref p, .int (n : Int)] ∧ SqL K H p (ns.map V.int) ∧ ns.Pairwise (· ≤ ·) ∧ ns.length ≤ 300 ∧ 2 * n < ns.length * (ns.length - 1) ∧ Tabs T H ∧ ∀ H', Nx T H H' → Q (.bl true) H'
/-- a place tells its pair -/
theorem aheadW_one {ns : List Int} (hs : ns.Pairwise (· ≤ ·)) {i j i' j' : Nat} {x x' d d' : Int} (h1 : i < j) (h2 : i' < j') (hx : ns[i]? = some x) (hx' : ns[i']? = some x') (hy : ns[j]? = some (x + d)) (hy' : ns[j']? = some (x' + d')) (e : aheadW ns i j x d = aheadW ns i' j' x' d') : d = d' ∧ i = i' ∧ j = j' := by
  have mono : ∀ {a b : Int}, a ≤ b → cntW ns a ≤ cntW ns b := fun {a b} h => by
    clear hx hx' hy hy' e hs
    induction ns with
    | nil => exact Nat.le_refl _
    | cons z zs ih =>
      show zs.countP _ + cntW zs a ≤ zs.countP _ + cntW zs b
      exact Nat.add_le_add (List.countP_mono_left fun y _ hy => decide_eq_true (by have := of_decide_eq_true hy; omega)) ih
  have lmono : ∀ {d : Int} {a b : Nat}, a ≤ b → b ≤ ns.length → likeW ns d a ≤ likeW ns d b := fun {d a b} h hb => by
    induction b with
    | zero => rw [show a = 0 from by omega]; exact Nat.le_refl _
    | succ b ih =>
      by_cases c : a = b + 1
      · rw [c]; exact Nat.le_refl _
      · obtain ⟨z, hz⟩ : ∃ z, ns[b]? = some z := ⟨_, List.getElem?_eq_getElem (by omega)⟩
        have := ih (by omega) (by omega)
        rw [likeW_succ d hz]
        omega
  -- below the whole of the next
  have inn : ∀ {i j : Nat} {x d : Int}, i < j → ns[i]? = some x → ns[j]? = some (x + d) → ((ns.drop (i + 1)).take (j - (i + 1))).count (x + d) < (ns.drop (i + 1)).count (x + d) := fun {i j x d} h hx hy => by
    have hl := (List.getElem?_eq_some_iff.mp hy).1
    have e1 : (ns.drop (i + 1))[j - (i + 1)]? = some (x + d) := by
      rw [List.getElem?_drop, show i + 1 + (j - (i + 1)) = j from by omega]
      exact hy
    have e2 := take_snoc e1
    have e3 : (ns.drop (i + 1)).count (x + d) = ((ns.drop (i + 1)).take (j - (i + 1) + 1)).count (x + d) + ((ns.drop (i + 1)).drop (j - (i + 1) + 1)).count (x + d) := by rw [← List.count_append, List.take_append_drop]
    rw [e2, List.count_append] at e3
    simp at e3
    omega
  have up : ∀ {i j : Nat} {x d : Int}, i < j → ns[i]? = some x → ns[j]? = some (x + d) → aheadW ns i j x d < cntW ns d + likeW ns d (i + 1) := fun {i j x d} h hx hy => by
    have := inn h hx hy
    unfold aheadW
    rw [likeW_succ d hx]
    omega
  have upA : ∀ {i j : Nat} {x d : Int}, i < j → ns[i]? = some x → ns[j]? = some (x + d) → aheadW ns i j x d < cntW ns (d + 1) := fun {i j x d} h hx hy => by
    have h1 := up h hx hy
    have hl := (List.getElem?_eq_some_iff.mp hx).1
    have h2 := lmono (d := d) (show i + 1 ≤ ns.length from hl) (Nat.le_refl _)
    rw [cntW_next]
    omega
  have lo : ∀ {i j : Nat} {x d : Int}, cntW ns d ≤ aheadW ns i j x d := fun {i j x d} => by unfold aheadW; omega
  have ed : d = d' := by
    rcases Int.lt_trichotomy d d' with c | c | c
    · have a1 := upA h1 hx hy
      have a2 := mono (show d + 1 ≤ d' from c)
      have a3 := lo (i := i') (j := j') (x := x') (d := d')
      omega
    · exact c
    · have a1 := upA h2 hx' hy'
      have a2 := mono (show d' + 1 ≤ d from c)
      have a3 := lo (i := i) (j := j) (x := x) (d := d)
      omega
  subst ed
  have ei : i = i' := by
    have b1 := up h1 hx hy
    have b2 := up h2 hx' hy'
    have l1 := (List.getElem?_eq_some_iff.mp hx).1
    have l2 := (List.getElem?_eq_some_iff.mp hx').1
    rcases Nat.lt_trichotomy i i' with c | c | c
    · have := lmono (d := d) (show i + 1 ≤ i' from c) (by omega)
      unfold aheadW at e b1 b2
      omega
    · exact c
    · have := lmono (d := d) (show i' + 1 ≤ i from c) (by omega)
      unfold aheadW at e b1 b2
      omega
  subst ei
  rw [hx] at hx'
  cases hx'
  refine ⟨rfl, rfl, ?_⟩
  have key : ∀ {j j' : Nat}, i < j → j < j' → ns[j]? = some (x + d) → ((ns.drop (i + 1)).take (j - (i + 1))).count (x + d) < ((ns.drop (i + 1)).take (j' - (i + 1))).count (x + d) := fun {j j'} a b hy => by
    have e1 : (ns.drop (i + 1))[j - (i + 1)]? = some (x + d) := by
      rw [List.getElem?_drop, show i + 1 + (j - (i + 1)) = j from by omega]
      exact hy
    have e2 := take_snoc e1
    have e3 : ((ns.drop (i + 1)).take (j - (i + 1) + 1)).count (x + d) ≤ ((ns.drop (i + 1)).take (j' - (i + 1))).count (x + d) := by
      have e4 : (ns.drop (i + 1)).take (j - (i + 1) + 1) = ((ns.drop (i + 1)).take (j' - (i + 1))).take (j - (i + 1) + 1) := by rw [List.take_take, Nat.min_eq_left (by omega)]
      rw [e4]
      exact (List.take_sublist _ _).count_le _
    rw [e2, List.count_append] at e3
    simp at e3
    omega
  unfold aheadW at e
  rcases Nat.lt_trichotomy j j' with c | c | c
  · have := key h1 c hy
    omega
  · exact c
  · have := key h2 c hy'
    omega
end Sp
namespace Sp
open PySem L2
theorem cut_mid (xs : List V) (a b : Nat) : cutV xs (some (a : Int)) (some (b : Int)) = (xs.drop a).take (b - a) := by
  unfold cutV
  rw [HT.sIx_nat, HT.sIx_nat]
  by_cases h : a ≤ xs.length
  · rw [Nat.min_eq_left h]
    by_cases h2 : b ≤ xs.length
    · rw [Nat.min_eq_left h2]
    · rw [Nat.min_eq_right (by omega), List.take_of_length_le (by rw [List.length_drop]; omega), List.take_of_length_le (by rw [List.length_drop]; omega)]
  · rw [Nat.min_eq_right (show xs.length ≤ a by omega), List.drop_of_length_le (Nat.le_refl _), List.drop_of_length_le (show xs.length ≤ a by omega), List.take_nil, List.take_nil]
theorem cnt_like (ns : List Int) (x d : Int) : (ns.countP fun v => decide (v - x = d)) = ns.count (x + d) := by
  rw [List.count_eq_countP]
  congr 1
  funext v
  by_cases h : v = x + d
  · rw [decide_eq_true (show v - x = d by omega), h]
    simp
  · rw [decide_eq_false (show ¬ v - x = d by omega)]
    simp [h]
end Sp

namespace Sp
open PySem L2 LamX Tri
/-! ### planted rows -/
theorem perm_of {α : Type} [BEq α] [LawfulBEq α] : ∀ {l1 l2 : List α}, l1.Nodup → (∀ x ∈ l1, x ∈ l2) → l2.length ≤ l1.length → l1.Perm l2
  | [], l2, _, _, h => by rw [List.length_eq_zero_iff.mp (Nat.le_zero.mp h)]
  | x :: l1, l2, nd, sub, h => by
    obtain ⟨n1, n2⟩ := List.nodup_cons.mp nd
    have m := sub x List.mem_cons_self
    have p := List.perm_cons_erase m
    have le := p.length_eq
    rw [List.length_cons] at le h
    refine (List.Perm.cons x (perm_of n2 (fun y hy => ?_) (by omega))).trans p.symm
    exact (List.mem_erase_of_ne (fun e => n1 (by rw [← e]; exact hy))).mpr (sub y (List.mem_cons_of_mem _ hy))
theorem stepped_at {b s : Int} {m i : Nat} (h : i < m) : (stepped b s m)[i]? = some (b + s * (i : Int)) := by
  unfold stepped
  rw [List.getElem?_map, List.getElem?_range h]
  rfl
theorem rep_stepped (b : Int) (m : Nat) : List.replicate m b = stepped b 0 m := by
  induction m with
  | zero => rfl
  | succ m ih => rw [stepped_succ, ← ih, List.replicate_succ', Int.zero_mul, Int.add_zero]
def stepA (kind b : Nat) (s : Int) : Int := if kind = 0 then s else if kind = 1 then s * (b : Int) else 0
def stepB (kind a : Nat) (s : Int) : Int := if kind = 0 then s * (a : Int) else if kind = 2 then 0 else s
def rowA (kind a b : Nat) (s g : Int) : List Int := stepped g (stepA kind b s) a
def rowB (kind a b : Nat) (s h : Int) : List Int := stepped h (stepB kind a s) b
def dueP (kind a b : Nat) (s g : Int) (p : Nat) : T3 :=
  if kind = 0 then (g + s * (p : Int), ((p % a : Nat) : Int), ((p / a : Nat) : Int)) else if kind = 1 then (g + s * (p : Int), ((p / b : Nat) : Int), ((p % b : Nat) : Int)) else if kind = 2 then (g, ((p / b : Nat) : Int), ((p % b : Nat) : Int)) else (g + s * ((p / a : Nat) : Int), ((p % a : Nat) : Int), ((p / a : Nat) : Int))
theorem split_a (s : Int) (a p : Nat) : s * ((p % a : Nat) : Int) + s * (a : Int) * ((p / a : Nat) : Int) = s * (p : Int) := by
  rw [Int.mul_assoc, ← Int.mul_add]
  congr 1
  have := Nat.mod_add_div p a
  rw [← Int.natCast_mul, ← Int.natCast_add, this]
theorem div_lt' {a b p : Nat} (h : p < a * b) : p / a < b := Nat.div_lt_of_lt_mul h
theorem div_mod_inj {a p q : Nat} (h1 : p / a = q / a) (h2 : p % a = q % a) : p = q := by
  have e1 := Nat.mod_add_div p a
  have e2 := Nat.mod_add_div q a
  rw [h1, h2] at e1
  omega
theorem div_mod_lt {a p q : Nat} (h : p < q) : p / a < q / a ∨ (p / a = q / a ∧ p % a < q % a) := by
  have h1 := Nat.div_le_div_right (c := a) (Nat.le_of_lt h)
  rcases Nat.lt_or_eq_of_le h1 with c | c
  · exact .inl c
  · have e1 := Nat.mod_add_div p a
    have e2 := Nat.mod_add_div q a
    rw [c] at e1
    exact .inr ⟨c, by omega⟩
theorem planted {kind a b : Nat} {s g h : Int} (hk : kind < 4) (ha : 0 < a) (hb : 0 < b) (hs : 0 < s) : Ord (rowA kind a b s g) (rowB kind a b s h) ((List.range (a * b)).map (dueP kind a b s (g + h))) := by
  have mono : ∀ {x y : Int}, x < y → s * x < s * y := fun {x y} z => Int.mul_lt_mul_of_pos_left z hs
  have put : ∀ (i j : Nat), i < a → j < b → (g + h + stepA kind b s * (i : Int) + stepB kind a s * (j : Int), (i : Int), (j : Int)) ∈ allP (rowA kind a b s g) 0 (rowB kind a b s h) := fun i j hi hj =>
    allP_mem.mpr ⟨i, j, _, _, stepped_at hi, stepped_at hj, by rw [Nat.zero_add]; congr 1; omega⟩
  have mem : ∀ p, p < a * b → dueP kind a b s (g + h) p ∈ allP (rowA kind a b s g) 0 (rowB kind a b s h) := fun p hp => by
    have hp2 : p < b * a := by rw [Nat.mul_comm]; exact hp
    have m1 := Nat.mod_lt p ha
    have m2 := Nat.mod_lt p hb
    have d1 := div_lt' hp
    have d2 := div_lt' hp2
    have sa := split_a s a p
    have sb := split_a s b p
    obtain rfl | rfl | rfl | rfl : kind = 0 ∨ kind = 1 ∨ kind = 2 ∨ kind = 3 := by omega
    · have e := put (p % a) (p / a) m1 d1
      rw [show g + h + stepA 0 b s * ((p % a : Nat) : Int) + stepB 0 a s * ((p / a : Nat) : Int) = g + h + s * (p : Int) from by
        show g + h + s * ((p % a : Nat) : Int) + s * (a : Int) * ((p / a : Nat) : Int) = _
        omega] at e
      exact e
    · have e := put (p / b) (p % b) d2 m2
      rw [show g + h + stepA 1 b s * ((p / b : Nat) : Int) + stepB 1 a s * ((p % b : Nat) : Int) = g + h + s * (p : Int) from by
        show g + h + s * (b : Int) * ((p / b : Nat) : Int) + s * ((p % b : Nat) : Int) = _
        omega] at e
      exact e
    · have e := put (p / b) (p % b) d2 m2
      rw [show g + h + stepA 2 b s * ((p / b : Nat) : Int) + stepB 2 a s * ((p % b : Nat) : Int) = g + h from by
        show g + h + 0 * ((p / b : Nat) : Int) + 0 * ((p % b : Nat) : Int) = _
        omega] at e
      exact e
    · have e := put (p % a) (p / a) m1 d1
      rw [show g + h + stepA 3 b s * ((p % a : Nat) : Int) + stepB 3 a s * ((p / a : Nat) : Int) = g + h + s * ((p / a : Nat) : Int) from by
        show g + h + 0 * ((p % a : Nat) : Int) + s * ((p / a : Nat) : Int) = _
        omega] at e
      exact e
  have inj : ∀ p q, dueP kind a b s (g + h) p = dueP kind a b s (g + h) q → p = q := fun p q e => by
    obtain rfl | rfl | rfl | rfl : kind = 0 ∨ kind = 1 ∨ kind = 2 ∨ kind = 3 := by omega
    all_goals
      have e2 := congrArg (fun t : T3 => t.2.1) e
      have e3 := congrArg (fun t : T3 => t.2.2) e
    · exact div_mod_inj (Int.ofNat.inj e3) (Int.ofNat.inj e2)
    · exact div_mod_inj (Int.ofNat.inj e2) (Int.ofNat.inj e3)
    · exact div_mod_inj (Int.ofNat.inj e2) (Int.ofNat.inj e3)
    · exact div_mod_inj (Int.ofNat.inj e3) (Int.ofNat.inj e2)
  refine ⟨perm_of ?_ (fun x hx => ?_) ?_, ?_⟩
  · refine List.pairwise_map.mpr (List.nodup_range.imp fun {p q} ne e => ne (inj p q e))
  · obtain ⟨p, hp, rfl⟩ := List.mem_map.mp hx
    exact mem p (List.mem_range.mp hp)
  · rw [allP_len, List.length_map, List.length_range]
    unfold rowA rowB
    rw [stepped_len, stepped_len]
    exact Nat.le_refl _
  · refine List.pairwise_map.mpr (List.pairwise_lt_range.imp fun {p q} lt => ?_)
    have lt' : (p : Int) < (q : Int) := by omega
    have m0 := mono lt'
    unfold before
    obtain rfl | rfl | rfl | rfl : kind = 0 ∨ kind = 1 ∨ kind = 2 ∨ kind = 3 := by omega
    · show ¬ (g + h + s * (q : Int) < g + h + s * (p : Int) ∨ (g + h + s * (q : Int) = g + h + s * (p : Int) ∧ _))
      omega
    · show ¬ (g + h + s * (q : Int) < g + h + s * (p : Int) ∨ (g + h + s * (q : Int) = g + h + s * (p : Int) ∧ _))
      omega
    · show ¬ (g + h < g + h ∨ (g + h = g + h ∧ (((q / b : Nat) : Int) < ((p / b : Nat) : Int) ∨ (((q / b : Nat) : Int) = ((p / b : Nat) : Int) ∧ ((q % b : Nat) : Int) < ((p % b : Nat) : Int)))))
      have := div_mod_lt (a := b) lt
      omega
    · show ¬ (g + h + s * ((q / a : Nat) : Int) < g + h + s * ((p / a : Nat) : Int) ∨ (g + h + s * ((q / a : Nat) : Int) = g + h + s * ((p / a : Nat) : Int) ∧ (((q % a : Nat) : Int) < ((p % a : Nat) : Int) ∨ (((q % a : Nat) : Int) = ((p % a : Nat) : Int) ∧ ((q / a : Nat) : Int) < ((p / a : Nat) : Int)))))
      rcases div_mod_lt (a := a) lt with c | ⟨c, c2⟩
      · have := mono (show ((p / a : Nat) : Int) < ((q / a : Nat) : Int) by omega)
        omega
      · rw [c]
        omega
theorem rowA_sorted {kind a b : Nat} {s g : Int} (hs : 0 < s) : (rowA kind a b s g).Pairwise (· ≤ ·) := by
  refine stepped_sorted ?_ _
  unfold stepA
  split
  · omega
  · split
    · exact Int.mul_nonneg (by omega) (by omega)
    · omega
theorem rowB_sorted {kind a b : Nat} {s g : Int} (hs : 0 < s) : (rowB kind a b s g).Pairwise (· ≤ ·) := by
  refine stepped_sorted ?_ _
  unfold stepB
  split
  · exact Int.mul_nonneg (by omega) (by omega)
  · split <;> omega
theorem rowA_len (kind a b : Nat) (s g : Int) : (rowA kind a b s g).length = a := stepped_len _ _ _
theorem rowB_len (kind a b : Nat) (s g : Int) : (rowB kind a b s g).length = b := stepped_len _ _ _
def spMidT (K : PySem.W.Frag) (T : List (Addr × Str)) : L2.Sp := fun vs H Q _ => ∃ (p q : Addr) (ns ms : List Int) (L : List T3) (w : T3), vs = [.ref p, .ref q] ∧ SqL K H p (ns.map V.int) ∧ SqL K H q (ms.map V.int) ∧ ns.Pairwise (· ≤ ·) ∧ ms.Pairwise (· ≤ ·) ∧ ns.length ≤ 1000 ∧ ms.length ≤ 1000 ∧ Tabs T H ∧
  Tri.Ord ns ms L ∧ L[ns.length * ms.length / 2]? = some w ∧ ∀ (t : Addr) (H' : Hp), Nx T H H' → H' t = some (.tup (tri w)) → Q (.ref t) H'
def spDue12 (K : PySem.W.Frag) : L2.Sp := fun vs H Q _ => ∃ (m : Addr) (kind a b p : Nat) (s g : Int), vs = [.int (kind : Int), .ref m, .int s, .int g, .int (p : Int)] ∧ H m = some (.tup [.int (a : Int), .int (b : Int)]) ∧ kind < 4 ∧ 0 < a ∧ a ≤ 300 ∧ 0 < b ∧ b ≤ 300 ∧ p < 90000 ∧ 0 < s ∧ s ≤ 1000000001 ∧
  ∀ t, H t = none → Q (.ref t) (upd H t (.tup (tri (dueP kind a b s g p))))
def spRows12 : L2.Sp := fun vs H Q _ => ∃ (m : Addr) (kind a b : Nat) (s g h : Int), vs = [.int (kind : Int), .ref m, .int s, .int g, .int h] ∧ H m = some (.tup [.int (a : Int), .int (b : Int)]) ∧ kind < 4 ∧ 0 < a ∧ a ≤ 300 ∧ 0 < b ∧ b ≤ 300 ∧ 0 < s ∧ s ≤ 1000000001 ∧
  ∀ (t p q : Addr) (H' : Hp), Same H H' → H p = none → H q = none → H t = none → H' t = some (.tup [.ref p, .ref q]) → H' p = some (.lst ((rowA kind a b s g).map V.int)) → H' q = some (.lst ((rowB kind a b s h).map V.int)) → Q (.ref t) H'
end Sp

/-! an exception that is caught and kept by a name. -/
namespace Xc
open PySem PySem.Spec PyProof.Rows L2
/-- the object at a is an exception of the class cls -/
def ExK (cls : Value) (a : Addr) : HO := .ext fun h => ∃ (oe : Obj) (vs : Array Value), h.get? a = some oe ∧ Zc cls none oe ∧ oe.data = .fields vs
section
variable {X : Cx} {pins : List (Addr × Obj)} {σ : L2.St} {H : Hp} {s : Shared}
/-- a pinned exception is tracked from now on -/
theorem tracked {a : Addr} {oe : Obj} {vs : Array Value} {cls : Value} (I : Inv X ((a, oe) :: pins) σ H s) (z : Zc cls none oe) (dd : oe.data = .fields vs) (new : X.s_0.heap.get? a = none) (apart : ∀ p ∈ X.pn ++ pins, p.1 ≠ a) : Inv X pins σ (upd H a (ExK cls a)) s := by
  obtain ⟨at_, off, nl, nf, nc⟩ := I.pin (a, oe) (List.mem_append_right _ List.mem_cons_self)
  have old : ∀ b o, X.s_0.heap.get? b = some o → b ≠ a := fun b o e q => by
    rw [q, new] at e
    cases e
  have seen : ∀ {b o}, H b = some o → upd H a (ExK cls a) b = some o := fun {b o} e => by
    rw [upd_ne (fun q => by rw [q, off] at e; cases e)]
    exact e
  refine ⟨I.ok, I.os, I.bare, ⟨I.base.keep, I.base.slot, fun b o e n x => ?_, I.base.there, fun b xs e => seen (I.base.tups b xs e), fun b o u e => seen (I.base.frzs b o u e), fun b ps e => ?_⟩, I.loc, I.cell, ?_, fun y c e => ?_, fun p hp => ?_, fun b u e => ?_, I.len⟩
  · rw [upd_ne (old b o e)]
    exact I.base.free b o e n x
  · obtain ⟨m, q⟩ := I.base.tbls b ps e
    exact ⟨m, seen q⟩
  · rw [upd_ne nl.symm]
    exact I.free
  · obtain ⟨v, o, ho, hd⟩ := I.cell y c e
    rw [upd_ne (fun q => by rw [q, at_] at ho; cases ho; rw [dd] at hd; cases hd)]
    exact I.freeC y c e
  · have hp2 : p ∈ X.pn ++ (a, oe) :: pins := by
      rcases List.mem_append.mp hp with m | m
      · exact List.mem_append_left _ m
      · exact List.mem_append_right _ (List.mem_cons_of_mem _ m)
    obtain ⟨q1, q2, q3⟩ := I.pin p hp2
    exact ⟨q1, by rw [upd_ne (apart p hp)]; exact q2, q3⟩
  · by_cases c : b = a
    · subst c
      rw [upd_same] at e
      cases e
      exact ⟨⟨oe, vs, at_, z, dd⟩, ⟨oe, at_⟩, fun h1 h2 ⟨o1, v1, e1, z1, d1⟩ st => ⟨o1, v1, st _ e1, z1, d1⟩⟩
    · rw [upd_ne c] at e
      exact (I.hok b u e).stay (fun _ _ _ q => q) (fun _ q => seen q) fun _ _ q => seen q
end
/-- what the clause «except x as n: m = n» wishes: it always catches; the slot j holds the exception -/
def wKeep (K : PySem.W.Frag) (c : Value) (i j : Nat) (D : Ends) : WX := fun cls d σ H => d = none ∧ PySem.W.exmOne K cls c = some true ∧ ∀ a, H a = none → D.nx ((σ.set j (some (.ref a))).set i none) (upd H a (ExK cls a))
section
variable {X : Cx} {x n : Str} {c : Value} {i j : Nat} {body : List Stmt} {b₀ : Stmt} {np pos pos' : Pos} {tb : WX → TS}
theorem ps_try_keep (st : X.stack = X.env :: X.outer) (fr : X.env.frame = some X.env.locals) (nd : X.N.Nodup) (ix : X.N[i]? = some n) (lo : X.env.kindOf n = some .local) (nm : Names X x c) (ji : i ≠ j) (noex : X.ex = [])
    (run : ∀ (W : WX) (pn : List (Addr × Obj)) (xe : Value → Shared → Prop), Takes (X.tr pn xe) W → PassesOwn (model X.prog X.w) X.A X.env xe → PSs (X.tr pn xe) body (tb W))
    (keep : ∀ (a : Addr) (pn : List (Addr × Obj)), PSs (X.suite a pn) [b₀] (fun D σ H => ∃ v, σ[i]? = some (some v) ∧ D.nx (σ.set j (some v)) H)) :
    PS X (.Try body [.ExceptHandler (some (.Name x np)) (some n) [b₀] pos'] [] [] pos) (fun D σ H => tb (wKeep X.K c i j D) D σ H) := by
  refine ⟨fun pins z σ H D I h => ?_⟩
  have good := I.ok
  have frames : X.A.frames = some (X.env :: X.outer) := good.frames.trans (congrArg some st)
  refine wpAny_Try_except (wpAny_mono ((run (wKeep X.K c i j D) (X.pn ++ pins) (fun e y => wpAny (model X.prog X.w) X.A (noteFrame e X.env) (fun _ y2 => wpAny (model X.prog X.w) X.A (setFlight e none) (fun _ y3 =>
    wpAny (model X.prog X.w) X.A (handleBy e X.env [.ExceptHandler (some (.Name x np)) (some n) [b₀] pos']) (SP X pins D) X.xe y3) X.xe y2) X.xe y) (fun u y air => ?_) PassesOwn.looking).run [] z σ H D (I.toTry _) h) (fun fl y done => ?_) (fun _ _ q => q))
  · obtain ⟨a, B, y0, pins0, τ, G, cls, d, rfl, I0, inB, up, sky, off, os, bare, rfl, yes, go⟩ := air
    have I1 : Inv X pins τ G y0 := I0.ofTry good
    rw [st] at sky
    show wpAny (model X.prog X.w) X.A (noteFrame (.ref a) X.env) _ _ _
    refine Sky.land Zc.steady frames fr sky fun g3 fl3 up3 => ?_
    have I3 : Inv X pins τ G { y with heap := g3 } := I1.landed inB fl3.1 (up.trans up3) os bare
    obtain ⟨o3, v3, at3, z3, d3⟩ := fl3.there
    have nofr : a ∉ frs (X.env :: X.outer) := fun m => by
      obtain ⟨_, o, e, w⟩ := fl3.2.2.1.mem m
      rw [at3] at e
      cases e
      exact w _ d3
    have nl : a ≠ X.env.locals := fun q => nofr (List.mem_filterMap.mpr ⟨X.env, List.mem_cons_self, fr.trans (congrArg some q.symm)⟩)
    have nf : a ∉ X.fs := fun m => nofr (let ⟨e, h1, h2⟩ := List.mem_filterMap.mp m; List.mem_filterMap.mpr ⟨e, List.mem_cons_of_mem _ h1, h2⟩)
    have notB : B.get? a = none := fl3.2.1
    have newer : ∀ b o, y0.heap.get? b = some o → b ∉ frs X.stack → b ≠ a := fun b o e nb q => by
      have e2 := inB b o e nb
      rw [q, notB] at e2
      cases e2
    have new0 : X.s_0.heap.get? a = none := by
      cases e : X.s_0.heap.get? a with
      | none => rfl
      | some o =>
        obtain ⟨o2, e2⟩ := I1.base.there a o e (by rw [noex]; exact fun m => nomatch m)
        exact absurd rfl (newer a o2 e2 (by rw [st]; exact nofr))
    have apart : ∀ p ∈ X.pn ++ pins, p.1 ≠ a := fun p hp => by
      obtain ⟨e, _, q1, q2, _⟩ := I1.pin p hp
      refine newer p.1 p.2 e fun m => ?_
      rw [st] at m
      rcases List.mem_filterMap.mp m with ⟨env, h1, h2⟩
      rcases List.mem_cons.mp h1 with rfl | h1
      · rw [fr] at h2
        exact q1 (Option.some.inj h2).symm
      · exact q2 (List.mem_filterMap.mpr ⟨env, h1, h2⟩)
    have U3 := I3.suite at3 d3 off nl nf
    refine wpAny_handleBy_cons (codeAny_handlers_test ?_) (by intro q; cases q)
    have looks : PySem.W.Looks (model X.prog X.w) g3 (typeOf (.ref a)) cls := fun _ _ _ _ k q => wpAny_typeOf_ref (k _ _ at3) (by rw [z3.1]; exact q)
    have asks := PySem.W.exm_one (M := model X.prog X.w) I3.kIn looks yes
    have named : ∀ {R E : Value → Shared → Prop}, R c { y with heap := g3 } → wpAny (model X.prog X.w) (X.A.mark (some (.ref a))) (eval (.Name x np) X.env) R E { y with heap := g3 } := fun {R E} r => by
      obtain ⟨k1, k2, k3 | ⟨k3, k4, k5⟩⟩ := nm
      · exact ld_glob (X := X.suite a ((a, o3) :: (X.pn ++ pins))) U3 k1 k3 r k2
      · exact ld_blt (X := X.suite a ((a, o3) :: (X.pn ++ pins))) U3 k1 k3 k4 r k5 k2
    refine named (asks.here (codeAny_handlers_suite_as (HandSPX.lands_againZ fl3 fun g4 fl4 up4 => ?_)))
    have I4 : Inv X pins τ G { y with heap := g4 } := I1.landed inB fl4.1 ((up.trans up3).trans up4) os bare
    obtain ⟨o4, v4, at4, z4, d4⟩ := fl4.there
    have U4 := I4.suite at4 d4 off nl nf
    refine store_ok (X := X.suite a ((a, o4) :: (X.pn ++ pins))) (v := .ref a) U4 nd ix (.inl lo) rfl (fun y5 U5 => ?_) (.inr lo)
    have len : i < τ.length := by rw [I4.len]; exact (List.getElem?_eq_some_iff.mp ix).1
    refine wpAny_mono ((keep a ((a, o4) :: (X.pn ++ pins))).run [] y5 _ G { nx := fun τ' G' => τ' = (τ.set i (some (.ref a))).set j (some (.ref a)) ∧ G' = G, rt := fun _ _ => False } U5 ⟨.ref a, List.getElem?_set_self len, rfl, rfl⟩) (fun fl y6 done => ?_) (fun _ _ q => False.elim q)
    cases fl with
    | ret u => obtain ⟨_, _, _, _, _, q⟩ := done; exact q.elim
    | brk => obtain ⟨_, _, _, q⟩ := done; exact q.elim
    | cont => obtain ⟨_, _, _, q⟩ := done; exact q.elim
    | next =>
      obtain ⟨τ6, G6, U6, e1, e2⟩ := done
      subst e1 e2
      have I6 : Inv X ((a, o4) :: pins) ((τ.set i (some (.ref a))).set j (some (.ref a))) G6 y6 := ⟨good, U6.os, U6.bare, U6.base, U6.loc, U6.cell, U6.free, U6.freeC, fun p hp => U6.pin p (by
        rcases List.mem_append.mp hp with m | m
        · exact List.mem_append_left _ (List.mem_cons_of_mem _ (List.mem_append_left _ m))
        · rcases List.mem_cons.mp m with rfl | m
          · exact List.mem_append_left _ List.mem_cons_self
          · exact List.mem_append_left _ (List.mem_cons_of_mem _ (List.mem_append_right _ m))), U6.hok, U6.len⟩
      refine gone_ok I6 nd ix lo fun y7 I7 => ?_
      refine ⟨_, _, tracked I7 z4 d4 new0 apart, ?_⟩
      have e : ((τ.set i (some (V.ref a))).set j (some (V.ref a))).set i none = (τ.set j (some (V.ref a))).set i none := by
        rw [List.set_comm _ _ ji, List.set_set]
      rw [e]
      exact go a off
  · cases fl with
    | next => exact wpAny_execs_nil (let ⟨τ, G, I2, q⟩ := done; ⟨τ, G, I2.ofTry good, q⟩)
    | ret u => exact (let ⟨v, τ, G, I2, r, q⟩ := done; ⟨v, τ, G, I2.ofTry good, r, q⟩)
    | brk => exact (let ⟨τ, G, I2, q⟩ := done; ⟨τ, G, I2.ofTry good, q⟩)
    | cont => exact (let ⟨τ, G, I2, q⟩ := done; ⟨τ, G, I2.ofTry good, q⟩)
end
/-- isinstance of a kept exception of the class at D: of a class, of a tuple of classes -/
def rIsK (K : PySem.W.Frag) (D : Addr) : List V → Hp → VK → Prop := fun xs H Q => ∃ (a : Addr) (c : V) (b : Bool), xs = [.ref a, c] ∧ H a = some (ExK (.ref D) a) ∧
  ((∃ cv, (∀ u, RelV c u → u = cv) ∧ PySem.W.kitOne K (.ref D) cv = some b) ∨ (∃ (t : Addr) (cs : List V), c = .ref t ∧ H t = some (.tup cs) ∧ ∀ us, Vals cs us → PySem.W.kitAny K (.ref D) us = some b)) ∧ Q (.bl b) H
theorem call_isK {X : Cx} {D : Addr} (C : ExcC X.K D) : CallR X (.builtin "isinstance") (rIsK X.K D) := by
  intro pins z σ H xs us Q I r h
  obtain ⟨a, c, b, rfl, hk, hc, q⟩ := h
  match r with
  | .cons ra (.cons rc .nil) =>
    cases ra
    obtain ⟨⟨oe, vs, at_, zc, dd⟩, _⟩ := I.hok a _ hk
    have J : PySem.W.InstAt z.heap a oe D none := by
      obtain ⟨oc, od, oda, osl⟩ := oe
      obtain ⟨e1, e2⟩ := zc
      dsimp only at e1 e2 dd
      subst e1 e2 dd
      exact ⟨at_, rfl, rfl, trivial⟩
    have Z := PySem.W.handS_kitx_exc (x := a) (ox := oe) C.hg C.hk C.hs C.hd C.ha C.hn C.ht C.hm
    rcases hc with ⟨cv, one, e⟩ | ⟨t, cs, rfl, ht, all⟩
    · have ec := one _ rc
      subst ec
      exact PySem.W.kia_one Z I.kIn J e (fun w => nomatch w) fun tk => ⟨.bl b, H, I.kept (t' := tk) fun _ _ w => w, rfl, q⟩
    · cases rc
      obtain ⟨_, its, rv, o, ho, hcl, n, hd⟩ := I.hok t _ ht
      obtain ⟨oc, od, oda, osl⟩ := o
      dsimp only at hcl hd
      subst hcl hd
      exact PySem.W.kia_tup Z I.kIn J ho (by simpa using all its rv) (fun w => nomatch w) fun tk => ⟨.bl b, H, I.kept (t' := tk) fun _ _ w => w, rfl, q⟩
/-- a def that may raise, by its name -/
structure CalX (P : Program) (w : World) (K : PySem.W.Frag) (mg : Str → Option Value) (base : Heap) (k : Nat) (x : Str) (ps : List Str) (sp : L2.Sp) : Prop where
  ex : ∃ (f : Addr) (fd : FuncData), FnOk P w K mg base (L2.CX P w) k f fd ps sp ∧ mg x = some (.ref f) ∧ PySem.W.keepIn K (.ref f) = true ∧ Binds K fd ps []
theorem pe_ownX {X : Cx} {k : Nat} {x : Str} {ps : List Str} {sp : L2.Sp} {E : XK} {W : WX} {e : Expr} {es : List Expr} {t : TA} {p pos : Pos} (c : CalX X.prog X.w X.K X.mg X.base k x ps sp) (hr : Room k X.A) (hg : Gl X x) (ha : PA X (e :: es) t) (tk : Takes X W) (hW : ∀ cls d σ H, E cls d H → W cls d σ H)
    (hdb : (x == ("__debug__" : Str)) = false := by decide) (he : starEach (e :: es) X.env = (false, eval e X.env) :: starEach es X.env := by rfl) (hpl : (backTo pos (starEach es X.env)).any (·.1) = false := by rfl) :
    PE X (.Call (.Name x p) (e :: es) [] pos) (tCall sp [] E t) := by
  obtain ⟨f, fd, F, m, kp, b⟩ := c.ex
  exact pe_call F hr hg m kp b .nil (passes_call tk hW) ha hdb he hpl
end Xc
namespace Sp
open PySem L2 LamX Tri Xc
/-! ### what is no place -/
def Bad (K : PySem.W.Frag) (H : Hp) (x : V) (m : Int) : Prop := (∃ n, x = .int n ∧ ¬ (0 ≤ n ∧ n < m)) ∨ NoInt K H x
def spCheckR (K : PySem.W.Frag) (C : Addr) : L2.Sp := fun vs H _ E => ∃ (x : V) (m : Int), vs = [x, .int m] ∧ Bad K H x m ∧ E (.ref C) none H
def spSumR (K : PySem.W.Frag) (C : Addr) : L2.Sp := fun vs H _ E => ∃ (p q : Addr) (ns ms : List Int) (x : V), vs = [.ref p, .ref q, x] ∧ SqL K H p (ns.map V.int) ∧ SqL K H q (ms.map V.int) ∧ ns.length ≤ 1000 ∧ ms.length ≤ 1000 ∧ Bad K H x ((ns.length : Int) * (ms.length : Int)) ∧ E (.ref C) none H
def spMidR (K : PySem.W.Frag) (C : Addr) : L2.Sp := fun vs H _ E => ∃ (p q : Addr) (ns ms : List Int), vs = [.ref p, .ref q] ∧ SqL K H p (ns.map V.int) ∧ SqL K H q (ms.map V.int) ∧ ns.length ≤ 1000 ∧ ms.length ≤ 1000 ∧ (ns = [] ∨ ms = []) ∧ E (.ref C) none H
/-- what the top has written of the class of the refusal -/
structure NoP (K : PySem.W.Frag) (mg : Str → Option Value) (C S : Addr) : Prop where
  gC : mg "NoPlace" = some (.ref C)
  gS : mg "SumError" = some (.ref S)
  xC : PySem.W.excIn K C [.type "ValueError", .type "Exception", .type "BaseException", .type "object"] "ValueError.__new__" = true
  kC : PySem.W.keepIn K (.ref C) = true
  bC : PySem.W.subIn K (.ref C) (.type "BaseException") = some true
  tC : PySem.W.typeIn K (.ref C) = some (.type "type")
  eC : PySem.W.exmOne K (.ref C) (.ref S) = some true
  is : ExcC K C
end Sp
namespace Xc
open PySem PySem.Spec PyProof.Rows L2
theorem pe_ownS {X : Cx} {k : Nat} {x : Str} {ps : List Str} {sp : L2.Sp} {W : WX} {e : Expr} {es : List Expr} {t : TA} {p pos : Pos} (c : CalX X.prog X.w X.K X.mg X.base k x ps sp) (hr : Room k X.A) (hg : Gl X x) (ha : PA X (e :: es) t) (tk : Takes X W)
    (hdb : (x == ("__debug__" : Str)) = false := by decide) (he : starEach (e :: es) X.env = (false, eval e X.env) :: starEach es X.env := by rfl) (hpl : (backTo pos (starEach es X.env)).any (·.1) = false := by rfl) :
    PE X (.Call (.Name x p) (e :: es) [] pos) (tCallS sp (fun σ cls d H => W cls d σ H) t) := by
  obtain ⟨f, fd, F, m, kp, b⟩ := c.ex
  exact pe_callS F hr hg m kp b (fun σ => passAt tk σ) ha hdb he hpl
end Xc
namespace Sp
open PySem L2 LamX Tri Xc
structure Flg (K : PySem.W.Frag) (mg : Str → Option Value) (C C1 C2 C3 C4 : Addr) : Prop where
  g1 : mg "NoCommand" = some (.ref C1)
  g2 : mg "NoSide" = some (.ref C2)
  g3 : mg "NoNumber" = some (.ref C3)
  g4 : mg "NoText" = some (.ref C4)
  no : PySem.W.kitAny K (.ref C) [.ref C1, .ref C3, .ref C2, .ref C4] = some false
  yes : PySem.W.kitOne K (.ref C) (.ref C) = some true
  val : PySem.W.kitOne K (.ref C) (.type "ValueError") = some true
def spFlags (K : PySem.W.Frag) (C : Addr) : L2.Sp := fun vs H Q _ => ∃ a : Addr, vs = [.ref a] ∧ H a = some (ExK (.ref C) a) ∧ ∀ H', Same H H' → Q (.bl true) H'
def spRight09 (K : PySem.W.Frag) (T : List (Addr × Str)) : L2.Sp := fun vs H Q _ => ∃ (p q : Addr) (ns ms : List Int), vs = [.ref p, .ref q] ∧ SqL K H p (ns.map V.int) ∧ SqL K H q (ms.map V.int) ∧ Fine ns ∧ Fine ms ∧ ns.length ≤ 300 ∧ ms.length ≤ 300 ∧ Tabs T H ∧ ∀ H', Nx T H H' → Q (.bl true) H'
end Sp
namespace Sp
open PySem L2 LamX Tri Xc
theorem dpAll_trips {K : PySem.W.Frag} {H : Hp} : ∀ {us : List Addr} {L : List T3}, Trip H us L → DpAll K H (us.map V.ref) (L.map fun w => (dt w : PyData))
  | [], [], _ => .nil
  | [], _ :: _, t => absurd t.len (by simp)
  | _ :: _, [], t => absurd t.len (by simp)
  | u :: us, w :: L, t => .cons (dp_tri (t.at_ 0 u w rfl rfl)) (dpAll_trips ⟨by have := t.len; simp at this; exact this, fun j b x h1 h2 => t.at_ (j + 1) b x h1 h2⟩)
theorem dp_trips {K : PySem.W.Frag} {H : Hp} {r : Addr} {us : List Addr} {L : List T3} (er : H r = some (.lst (us.map V.ref))) (t : Trip H us L) : Dp K H (.ref r) (.list (L.map fun w => (dt w : PyData))) := .lst (SqL.new er) (dpAll_trips t)
theorem lay_trips : ∀ L : List T3, PyData.canLayAll0 (L.map fun w => (dt w : PyData)) = true
  | [] => by rw [List.map_nil, PyData.canLayAll0]
  | w :: L => by rw [List.map_cons, PyData.canLayAll0, lay_trips L, lay_tri]; rfl
theorem dep_tri (w : T3) : PyData.depth (dt w) ≤ 1 := by
  simp only [PyData.depth, PyData.depthAll]
  decide
theorem dep_trips : ∀ L : List T3, PyData.depthAll (L.map fun w => (dt w : PyData)) ≤ 1
  | [] => by rw [List.map_nil, PyData.depthAll]; decide
  | w :: L => by
    rw [List.map_cons, PyData.depthAll]
    have h1 := dep_trips L
    have h2 := dep_tri w
    omega
theorem shaped_trips (L : List T3) : SeqAt.shaped (.list (L.map fun w => (dt w : PyData))) = true := by
  have h := dep_trips L
  unfold SeqAt.shaped
  simp only [PyData.canLay0, lay_trips, PyData.depth]
  simp
  omega
theorem eqv_trips_nil {L : List T3} (h : L ≠ []) : PyData.eqv (.list (L.map fun w => (dt w : PyData))) (di []) = false := by
  cases L with
  | nil => exact absurd rfl h
  | cons w L =>
    rw [PyData.eqv]
    rfl
end Sp
namespace Sp
open PySem L2 LamX Tri Xc
theorem TyX.nx {T : List (Addr × Str)} {K : PySem.W.Frag} {H H' : Hp} {x : V} {t : Value} (n : Nx T H H') (h : TyX K H x t) : TyX K H' x t := by
  cases h with
  | base b =>
    cases b with
    | non => exact .base .non
    | bl y => exact .base (.bl y)
    | int i => exact .base (.int i)
    | str y => exact .base (.str y)
    | flt y => exact .base (.flt y)
    | lst e => exact .base (.lst (n.g e))
    | frz e => exact .base (.frz (n.g e))
    | tup e => exact .base (.tup (n.g e))
    | dK e => exact .base (.dK (n.g e))
    | dT e => exact .base (.dT (n.g e))
    | ins e c1 c2 c3 c4 c5 => exact .base (.ins (n.g e) c1 c2 c3 c4 c5)
  | byt b => exact .byt b
  | set e => exact .set (n.g e)
  | kList e c => exact .kList e c
  | kTuple e c => exact .kTuple e c
  | kDict e c => exact .kDict e c
  | fTuple e => exact .fTuple (n.g e)
  | fDict e => exact .fDict (n.g e)
theorem NoInt.nx {T : List (Addr × Str)} {K : PySem.W.Frag} {H H' : Hp} {x : V} (n : Nx T H H') (h : NoInt K H x) : NoInt K H' x := let ⟨t, m, y⟩ := h; ⟨t, m, TyX.nx n y⟩
theorem Bad.nx {T : List (Addr × Str)} {K : PySem.W.Frag} {H H' : Hp} {x : V} {m : Int} (n : Nx T H H') (h : Bad K H x m) : Bad K H' x m := h.imp id (NoInt.nx n)
theorem Bad.up {K : PySem.W.Frag} {H H' : Hp} {x : V} {m : Int} (s : Same H H') (h : Bad K H x m) : Bad K H' x m := h.imp id (NoInt.up s)
theorem no_bl {K : PySem.W.Frag} {H : Hp} {b : Bool} : NoInt K H (.bl b) := ⟨"bool", by decide, .base (.bl b)⟩
theorem no_str {K : PySem.W.Frag} {H : Hp} {z : Str} : NoInt K H (.str z) := ⟨"str", by decide, .base (.str z)⟩
theorem no_non {K : PySem.W.Frag} {H : Hp} : NoInt K H .non := ⟨"NoneType", by decide, .base .non⟩
theorem no_lst {K : PySem.W.Frag} {H : Hp} {p : Addr} {xs : List V} (h : H p = some (.lst xs)) : NoInt K H (.ref p) := ⟨"list", by decide, .base (.lst h)⟩
theorem no_tup {K : PySem.W.Frag} {H : Hp} {p : Addr} {xs : List V} (h : H p = some (.tup xs)) : NoInt K H (.ref p) := ⟨"tuple", by decide, .base (.tup h)⟩
theorem no_dct {K : PySem.W.Frag} {H : Hp} {p : Addr} (h : H p = some (.dK [])) : NoInt K H (.ref p) := ⟨"dict", by decide, .base (.dK h)⟩
/-- what is no place of so many, nor of none -/
def Bad2 (K : PySem.W.Frag) (H : Hp) (x : V) (m : Int) : Prop := Bad K H x m ∧ Bad K H x 0
theorem Bad2.no {K : PySem.W.Frag} {H : Hp} {x : V} {m : Int} (h : NoInt K H x) : Bad2 K H x m := ⟨.inr h, .inr h⟩
theorem Bad2.int {K : PySem.W.Frag} {H : Hp} {n m : Int} (h : ¬ (0 ≤ n ∧ n < m)) : Bad2 K H (.int n) m := ⟨.inl ⟨n, rfl, h⟩, .inl ⟨n, rfl, by omega⟩⟩
theorem Bad2.nx {T : List (Addr × Str)} {K : PySem.W.Frag} {H H' : Hp} {x : V} {m : Int} (n : Nx T H H') (h : Bad2 K H x m) : Bad2 K H' x m := ⟨h.1.nx n, h.2.nx n⟩
def spNoPlaces (K : PySem.W.Frag) : L2.Sp := fun vs H Q _ => ∃ (a : Addr) (m : Int), vs = [.ref a, .int m] ∧ HandAt H a ∧ 0 ≤ m ∧ m ≤ 90000 ∧ ∀ (r : Addr) (xs : List V) (H' : Hp), Ext a H H' → H r = none → H' r = some (.lst xs) → xs.length = 19 → (∀ x ∈ xs, Bad2 K H' x m) → Q (.ref r) H'
def spRefused (K : PySem.W.Frag) : L2.Sp := fun vs H Q _ => ∃ (p q : Addr) (ns ms : List Int) (x : V), vs = [.ref p, .ref q, x] ∧ SqL K H p (ns.map V.int) ∧ SqL K H q (ms.map V.int) ∧ ns.length ≤ 300 ∧ ms.length ≤ 300 ∧ Bad K H x ((ns.length : Int) * (ms.length : Int)) ∧ ∀ H', Same H H' → Q (.bl true) H'
theorem nx_set {T : List (Addr × Str)} {H0 H : Hp} {D : Addr} {acc xs : List V} (nD : H0 D = none) (e : H D = some (.lst acc)) (n : Nx T H0 H) : Nx T H0 (upd H D (.lst xs)) := by
  refine ⟨fun b o h t => ?_, fun t q hq => ?_⟩
  · rw [upd_ne (fun z => by rw [z, nD] at h; cases h)]
    exact n.of b o h t
  · obtain ⟨ps, h1, h2, h3⟩ := n.tabs t q hq
    refine ⟨ps, by rw [upd_ne (fun z => by rw [z, e] at h1; cases h1)]; exact h1, h2, fun pos cv hc => ?_⟩
    obtain ⟨c, c1, c2⟩ := h3 pos cv hc
    refine ⟨c, c1, ?_⟩
    rw [upd_ne (fun z => by rw [z, e] at c2; unfold CodeO at c2; cases c2)]
    exact c2
theorem eqv_trips_same (L : List T3) : PyData.eqv (.list (L.map fun w => (dt w : PyData))) (.list (L.map fun w => (dt w : PyData))) = true := by
  rw [PyData.eqv]
  refine eqvAll_same fun x hx => ?_
  obtain ⟨w, _, rfl⟩ := List.mem_map.mp hx
  exact eqv_tri w
end Sp

/-! what is no place of the differences. -/
namespace Xd
open PySem PySem.Spec PyProof.Rows L2 Sp
theorem pe_own0 {X : Cx} {k : Nat} {x : Str} {ps : List Str} {sp : L2.Sp} {p pos : Pos} (c : Cal X.prog X.w X.K X.mg X.base k x ps sp) (hr : Room k X.A) (hg : Gl X x) (hdb : (x == ("__debug__" : Str)) = false := by decide) :
    PE X (.Call (.Name x p) [] [] pos) (tCall sp [] E0 tNil) := by
  obtain ⟨f, fd, F, m, kp, b⟩ := c.ex
  exact pe_call0 F hr hg m kp b .nil pass0 hdb
end Xd
namespace Sp
open PySem L2 LamX Tri Xc
theorem no_dctK {K : PySem.W.Frag} {H : Hp} {p : Addr} {kvs : List (Key × V)} (h : H p = some (.dK kvs)) : NoInt K H (.ref p) := ⟨"dict", by decide, .base (.dK h)⟩
theorem Bad.out {K : PySem.W.Frag} {H : Hp} {n m : Int} (h : ¬ (0 ≤ n ∧ n < m)) : Bad K H (.int n) m := .inl ⟨n, rfl, h⟩
/-- so many places: of all pairs, of the pairs within one row -/
def manyOf (way : Int) (a b : Nat) : Int := if way = 0 then (a : Int) * (b : Int) else (a : Int) * ((a : Int) - 1) / 2
def spDiffR (K : PySem.W.Frag) (C : Addr) : L2.Sp := fun vs H _ E => ∃ (p q : Addr) (ns ms : List Int) (x : V), vs = [.ref p, .ref q, x] ∧ SqL K H p (ns.map V.int) ∧ SqL K H q (ms.map V.int) ∧ ns.length ≤ 1000 ∧ ms.length ≤ 1000 ∧ Bad K H x ((ns.length : Int) * (ms.length : Int)) ∧ E (.ref C) none H
def spWithR (K : PySem.W.Frag) (C : Addr) : L2.Sp := fun vs H _ E => ∃ (p : Addr) (ns : List Int) (x : V), vs = [.ref p, x] ∧ SqL K H p (ns.map V.int) ∧ ns.length ≤ 1000 ∧ Bad K H x ((ns.length : Int) * ((ns.length : Int) - 1) / 2) ∧ E (.ref C) none H
def spDeep (K : PySem.W.Frag) : L2.Sp := fun vs H Q _ => vs = [] ∧ ∀ (t : Addr) (l : List V) (H' : Hp), Same H H' → H' t = some (.tup l) → Q (.ref t) H'
def spOdd (K : PySem.W.Frag) : L2.Sp := fun vs H Q _ => ∃ (a d : Addr) (m : Int) (l : List V), vs = [.ref a, .int m, .ref d] ∧ HandAt H a ∧ d ≠ a ∧ H d = some (.tup l) ∧ 0 ≤ m ∧ m ≤ 90000 ∧
  ∀ (r : Addr) (xs : List V) (H' : Hp), Ext a H H' → H r = none → H' r = some (.lst xs) → xs.length = 22 → (∀ x ∈ xs, Bad K H' x m) → Q (.ref r) H'
def spRefused25 (K : PySem.W.Frag) : L2.Sp := fun vs H Q _ => ∃ (p q : Addr) (ns ms : List Int) (way : Int) (x : V), vs = [.int way, .ref p, .ref q, x] ∧ SqL K H p (ns.map V.int) ∧ SqL K H q (ms.map V.int) ∧ ns.length ≤ 300 ∧ ms.length ≤ 300 ∧ Bad K H x (manyOf way ns.length ms.length) ∧ ∀ H', Same H H' → Q (.bl true) H'
/-- what stands at a place -/
def TellsW (way : Int) (ns : List Int) (L : List T3) (n : Nat) (w : T3) : Prop := (way = 0 ∧ L[n]? = some w) ∨ (way = 1 ∧ ∃ (i j : Nat) (x d : Int), i < j ∧ ns[i]? = some x ∧ ns[j]? = some (x + d) ∧ n = aheadW ns i j x d ∧ w = (d, (i : Int), (j : Int)))
theorem TellsW.one {way : Int} {ns : List Int} {L : List T3} {n : Nat} {w v : T3} (hs : ns.Pairwise (· ≤ ·)) (h : TellsW way ns L n w) (g : TellsW way ns L n v) : w = v := by
  rcases h with ⟨h0, h⟩ | ⟨h0, i, j, x, d, h1, h2, h3, h4, rfl⟩
  · rcases g with ⟨g0, g⟩ | ⟨g0, _⟩
    · rw [h] at g
      exact Option.some.inj g
    · omega
  · rcases g with ⟨g0, _⟩ | ⟨g0, i', j', x', d', g1, g2, g3, g4, rfl⟩
    · omega
    · obtain ⟨rfl, rfl, rfl⟩ := aheadW_one hs h1 g1 h2 g2 h3 g3 (h4.symm.trans g4)
      rfl
def spTold (K : PySem.W.Frag) (T : List (Addr × Str)) : L2.Sp := fun vs H Q _ => ∃ (p q : Addr) (ns ms : List Int) (n : Nat) (way : Int) (L : List T3), vs = [.int way, .ref p, .ref q, .int (n : Int)] ∧ SqL K H p (ns.map V.int) ∧ SqL K H q (ms.map V.int) ∧ ns.Pairwise (· ≤ ·) ∧ ms.Pairwise (· ≤ ·) ∧ ns.length ≤ 300 ∧ ms.length ≤ 300 ∧ Tabs T H ∧
  Tri.Ord ns (negs ms) L ∧ (way = 0 ∨ way = 1) ∧ (n : Int) < manyOf way ns.length ms.length ∧ ∀ (w : T3) (t : Addr) (H' : Hp), TellsW way ns L n w → Nx T H H' → H' t = some (.tup (tri w)) → Q (.ref t) H'
end Sp

/-! own classes by name: methods, makings; what changes but for a few objects; the Glass. -/
namespace Ob
open PySem PySem.Spec PyProof.Rows L2
/-- a method of the class at C, by its name -/
structure CalM (P : Program) (w : World) (K : PySem.W.Frag) (mg : Str → Option Value) (base : Heap) (k : Nat) (C : Addr) (m : Str) (ps : List Str) (sp : L2.Sp) : Prop where
  cl : Cls K C
  ex : ∃ (f : Addr) (fd : FuncData), FnOk P w K mg base CX0 k f fd ps sp ∧ Meth K C m f ∧ Binds K fd ps []
/-- one that may raise -/
structure CalMX (P : Program) (w : World) (K : PySem.W.Frag) (mg : Str → Option Value) (base : Heap) (k : Nat) (C : Addr) (m : Str) (ps : List Str) (sp : L2.Sp) : Prop where
  cl : Cls K C
  ex : ∃ (f : Addr) (fd : FuncData), FnOk P w K mg base (L2.CX P w) k f fd ps sp ∧ Meth K C m f ∧ Binds K fd ps []
/-- the class, called by its name -/
structure CalN (P : Program) (w : World) (K : PySem.W.Frag) (mg : Str → Option Value) (base : Heap) (k : Nat) (C : Addr) (x : Str) (ps : List Str) (sp : L2.Sp) : Prop where
  ex : ∃ (f : Addr) (fd : FuncData), FnOk P w K mg base CX0 k f fd ps sp ∧ Mk K C f ∧ mg x = some (.ref C) ∧ Binds K fd ps []
section
variable {X : Cx} {k : Nat} {C : Addr} {m x : Str} {ps : List Str} {sp : L2.Sp} {o e : Expr} {es : List Expr} {ta : TE} {t : TA} {apos pos p : Pos} {pl : Sem Bool}
theorem pe_m (he : PE X o ta) (c : CalM X.prog X.w X.K X.mg X.base k C m ps sp) (hr : Room k X.A) (ha : PA X (e :: es) t) (hst : starEach (e :: es) X.env = (false, eval e X.env) :: starEach es X.env := by rfl) (hpl : (backTo pos (starEach es X.env)).any (·.1) = false := by rfl)
    (ht : eval (.Call (.Attribute o m apos) (e :: es) [] pos) X.env = (do let v0 ← eval o X.env; standAt apos.atName; let (g, one) ← holding [v0] (getMethod v0 m pl); callWith pos g one (backTo pos (starEach (e :: es) X.env)) (backToKw pos (keywordEach [] X.env))) := by rfl) :
    PE X (.Call (.Attribute o m apos) (e :: es) [] pos) (tMeth C m sp [] E0 ta t) := by
  obtain ⟨f, fd, F, hm, b⟩ := c.ex
  exact pe_meth he c.cl hm F hr b .nil pass0 ha hst hpl ht
theorem pe_m0 (he : PE X o ta) (c : CalM X.prog X.w X.K X.mg X.base k C m ps sp) (hr : Room k X.A)
    (ht : eval (.Call (.Attribute o m apos) [] [] pos) X.env = (do let v0 ← eval o X.env; standAt apos.atName; let (g, one) ← holding [v0] (getMethod v0 m pl); callWith pos g one (backTo pos (starEach [] X.env)) (backToKw pos (keywordEach [] X.env))) := by rfl) :
    PE X (.Call (.Attribute o m apos) [] [] pos) (tMeth C m sp [] E0 ta tNil) := by
  obtain ⟨f, fd, F, hm, b⟩ := c.ex
  exact pe_meth0 he c.cl hm F hr b .nil pass0 ht
theorem pe_n (c : CalN X.prog X.w X.K X.mg X.base k C x ps sp) (hr : Room (k + 1) X.A) (hg : Gl X x) (ha : PA X (e :: es) t) (hdb : (x == ("__debug__" : Str)) = false := by decide)
    (he : starEach (e :: es) X.env = (false, eval e X.env) :: starEach es X.env := by rfl) (hpl : (backTo pos (starEach es X.env)).any (·.1) = false := by rfl) :
    PE X (.Call (.Name x p) (e :: es) [] pos) (tMake C sp [] E0 t) := by
  obtain ⟨f, fd, F, M, hm, b⟩ := c.ex
  exact pe_make M F hr hg hm b .nil pass0 ha hdb he hpl
/-- a method that may raise, in a try -/
def tMethAt (C : Addr) (m : Str) (sp : L2.Sp) (E : L2.St → XK) (ta : TE) (t : TA) : TE := fun σ H Q => ta σ H fun x H1 => ∃ a dx fs, x = .ref a ∧ H1 a = some (.ins C dx fs) ∧ fs.lookup m = none ∧ t σ H1 fun vs H2 => sp (x :: vs) H2 Q (E σ)
theorem pe_mS {W : WX} (he : PE X o ta) (c : CalMX X.prog X.w X.K X.mg X.base k C m ps sp) (hr : Room k X.A) (ha : PA X (e :: es) t) (tk : Takes X W) (hst : starEach (e :: es) X.env = (false, eval e X.env) :: starEach es X.env := by rfl) (hpl : (backTo pos (starEach es X.env)).any (·.1) = false := by rfl)
    (ht : eval (.Call (.Attribute o m apos) (e :: es) [] pos) X.env = (do let v0 ← eval o X.env; standAt apos.atName; let (g, one) ← holding [v0] (getMethod v0 m pl); callWith pos g one (backTo pos (starEach (e :: es) X.env)) (backToKw pos (keywordEach [] X.env))) := by rfl) :
    PE X (.Call (.Attribute o m apos) (e :: es) [] pos) (tMethAt C m sp (fun σ cls d H => W cls d σ H) ta t) := by
  obtain ⟨f, fd, F, hm, b⟩ := c.ex
  refine ⟨fun pins z σ H Q I h => PySem.W.methodCall_KW (pl := pl) (thn (he.run pins z σ H _ I h) fun u z1 ⟨y, H1, I1, ry, a, dx, fs, ey, ea, l, q⟩ => ?_) ht⟩
  subst ey
  obtain rfl : u = Value.ref a := ry
  exact getmeth_ok I1 ea c.cl hm l (PySem.W.callWith_K (first := [.ref a]) (h₀ := X.base) I.ok.mod.kin hm.kp (thn (ha.run pos pins z1 σ H1 _ I1 q) fun us z2 ⟨vs, H2, I2, r, q2⟩ => ⟨I2.kIn, run_fnS (us := .ref a :: us) (vs := .ref a :: vs) F hr b (passAt tk σ) I2 (.cons rfl r) q2⟩) hst hpl)
end
end Ob
namespace Sp
open PySem L2 LamX Tri Xc
/-! ### what changes but at a few places -/
/-- all but the tables and what stands at S stays; the tables stay tables -/
structure Mv (T : List (Addr × Str)) (S : List Addr) (H H' : Hp) : Prop where
  of : ∀ b o, H b = some o → NT o → b ∉ S → H' b = some o
  tabs : Tabs T H → Tabs T H'
section
variable {T : List (Addr × Str)} {S S' : List Addr} {K : PySem.W.Frag} {H H' H1 H2 : Hp} {a p b : Addr} {ns : List Int} {xs : List V} {o o' : HO}
theorem Mv.nx (n : Nx T H H') : Mv T S H H' := ⟨fun b o h t _ => n.of b o h t, n.tabs⟩
theorem Mv.same (s : Same H H') : Mv T S H H' := .nx (.same s)
theorem Mv.refl : Mv T S H H := .nx .refl
theorem Mv.trans (e : Mv T S H H1) (f : Mv T S H1 H2) : Mv T S H H2 := ⟨fun b o h t n => f.of b o (e.of b o h t n) t n, fun h => f.tabs (e.tabs h)⟩
theorem Mv.ext (e : Ext a H H') (h : HandAt H a) (m : a ∈ S) : Mv T S H H' := ⟨fun b o q _ n => e.keep b o q fun z => n (z ▸ m), tabs_hand h e⟩
theorem Mv.ex (e : Ex T a H H') (m : a ∈ S) : Mv T S H H' := ⟨fun b o q t n => e.of b o q t fun z => n (z ▸ m), e.tabs⟩
theorem Mv.mono (e : Mv T S H H') (m : ∀ b ∈ S, b ∈ S') : Mv T S' H H' := ⟨fun b o h t n => e.of b o h t fun z => n (m b z), e.tabs⟩
theorem Mv.g (e : Mv T S H H') (h : H b = some o) (n : b ∉ S) (t : NT o := by trivial) : H' b = some o := e.of b o h t n
/-- what is made anew may change as it likes -/
theorem Mv.made (e : Mv T S H H') (n : ∀ b ∈ S, H b = none) : Nx T H H' := ⟨fun b o h t => e.of b o h t fun z => (by rw [n b z] at h; cases h), e.tabs⟩
/-- one more object, new, may change as it likes -/
theorem Mv.made1 (e : Mv T (a :: S) H H') (n : H a = none) : Mv T S H H' := by
  refine ⟨fun b o h t m => e.of b o h t fun z => ?_, e.tabs⟩
  cases z with
  | head => rw [n] at h; cases h
  | tail _ z => exact m z
def NC : HO → Prop
  | .tbl _ => False
  | .ext _ => False
  | _ => True
theorem tabs_put (h : H p = some o) (t : NC o) (tb : Tabs T H) : Tabs T (upd H p o') := fun q hq => by
  obtain ⟨ps, h1, h2, h3⟩ := tb q hq
  refine ⟨ps, by rw [upd_ne (fun z => by rw [z, h] at h1; cases h1; exact t)]; exact h1, h2, fun pos cv hc => ?_⟩
  obtain ⟨c, c1, c2⟩ := h3 pos cv hc
  refine ⟨c, c1, ?_⟩
  rw [upd_ne (fun z => by rw [z, h] at c2; unfold CodeO at c2; cases c2; exact t)]
  exact c2
theorem Mv.put (h : H p = some o) (t : NC o) (m : p ∈ S) : Mv T S H (upd H p o') := ⟨fun b u e _ n => by rw [upd_ne (fun z => n (by rw [z]; exact m))]; exact e, tabs_put h t⟩
theorem Mv.hand (e : Mv T S H H') (n : a ∉ S) (h : HandAt H a) : HandAt H' a := by
  obtain ⟨x, y, q, r⟩ := h
  exact ⟨x, y, e.g q n, r⟩
theorem Mv.free (e : Mv T S H H') (n : b ∉ S) (h : H' b = none) (t : ∀ o, H b = some o → NT o) : H b = none := by
  cases q : H b with
  | none => rfl
  | some o =>
    have := e.of b o q (t o q) n
    rw [h] at this
    cases this
theorem Mv.seq (e : Mv T S H H') (n : p ∉ S) (h : H p = some (.lst xs)) : SqL K H' p xs := SqL.new (e.g h n)
end
/-! ### the Glass -/
theorem tr_ : ¬ (("_taken" : Str) = "_row") := by decide +kernel
theorem rt_ : ¬ (("_row" : Str) = "_taken") := by decide +kernel
def gf (l : Addr) (n : Int) : List (Str × V) := [("_row", .ref l), ("_taken", .int n)]
theorem gf_row (l : Addr) (n : Int) : (gf l n).lookup ("_row" : Str) = some (.ref l) := rfl
theorem gf_taken (l : Addr) (n : Int) : (gf l n).lookup ("_taken" : Str) = some (.int n) := by
  show List.lookup ("_taken" : Str) [(("_row" : Str), V.ref l), ("_taken", .int n)] = _
  rw [List.lookup_cons, show (("_taken" : Str) == ("_row" : Str)) = false from beq_eq_false_iff_ne.mpr tr_]
  rfl
theorem gf_put (l : Addr) (n m : Int) : putF "_taken" (.int m) (gf l n) = gf l m := by
  show (if ("_row" : Str) = "_taken" then _ else (("_row" : Str), V.ref l) :: (if ("_taken" : Str) = "_taken" then [(("_taken" : Str), V.int m)] else _)) = gf l m
  rw [if_neg rt_, if_pos rfl]
  rfl
theorem gf_new (l : Addr) (n : Int) : putF "_taken" (.int n) (putF "_row" (.ref l) []) = gf l n := by
  show (if ("_row" : Str) = "_taken" then _ else (("_row" : Str), V.ref l) :: putF "_taken" (V.int n) []) = gf l n
  rw [if_neg rt_]
  rfl
theorem gf_no {m : Str} (l : Addr) (n : Int) (h1 : ¬ m = "_row") (h2 : ¬ m = "_taken") : (gf l n).lookup m = none := by
  show List.lookup m [(("_row" : Str), V.ref l), ("_taken", .int n)] = _
  rw [List.lookup_cons, show (m == ("_row" : Str)) = false from beq_eq_false_iff_ne.mpr h1]
  show List.lookup m [(("_taken" : Str), V.int n)] = _
  rw [List.lookup_cons, show (m == ("_taken" : Str)) = false from beq_eq_false_iff_ne.mpr h2]
  rfl
/-- a glass at g of the class at C: its row stands at l, so many looks were taken -/
def GlassAt (C : Addr) (H : Hp) (g l : Addr) (n : Int) : Prop := ∃ dx, H g = some (.ins C dx (gf l n))
/-- what the top has written of the class -/
structure GlT (K : PySem.W.Frag) (C : Addr) : Prop where
  cl : Cls K C
  nR : NoAttr K C "_row"
  nT : NoAttr K C "_taken"
def spGInit (K : PySem.W.Frag) (C : Addr) : L2.Sp := fun vs H Q _ => ∃ (g dx p : Addr) (xs : List V), vs = [.ref g, .ref p] ∧ H g = some (.ins C dx []) ∧ SqL K H p xs ∧ ∀ (l : Addr), H l = none → Q .non (upd (upd H l (.lst xs)) g (.ins C dx (gf l 0)))
def spGMany (K : PySem.W.Frag) (C : Addr) : L2.Sp := fun vs H Q _ => ∃ (g l : Addr) (n : Int) (xs : List V), vs = [.ref g] ∧ GlassAt C H g l n ∧ SqL K H l xs ∧ Q (.int (xs.length : Int)) H
def spGLooks (C : Addr) : L2.Sp := fun vs H Q _ => ∃ (g l : Addr) (n : Int), vs = [.ref g] ∧ GlassAt C H g l n ∧ Q (.int n) H
/-- a good look -/
def spGLook (C : Addr) : L2.Sp := fun vs H Q _ => ∃ (g l : Addr) (n : Int) (ns : List Int) (k : Nat) (v : Int), vs = [.ref g, .int (k : Int)] ∧ GlassAt C H g l n ∧ H l = some (.lst (ns.map V.int)) ∧ ns[k]? = some v ∧ ∀ dx, H g = some (.ins C dx (gf l n)) → Q (.int v) (upd H g (.ins C dx (gf l (n + 1))))
/-- a look at what is no place -/
def spGLookR (K : PySem.W.Frag) (C CP : Addr) : L2.Sp := fun vs H _ E => ∃ (g l : Addr) (n : Int) (x : V) (xs : List V), vs = [.ref g, x] ∧ GlassAt C H g l n ∧ SqL K H l xs ∧ Bad K H x (xs.length : Int) ∧ E (.ref CP) none H
theorem GlassAt.same {C : Addr} {H H' : Hp} {g l : Addr} {n : Int} (s : Same H H') (h : GlassAt C H g l n) : GlassAt C H' g l n := let ⟨dx, e⟩ := h; ⟨dx, s _ _ e⟩
theorem GlassAt.mv {C : Addr} {T : List (Addr × Str)} {S : List Addr} {H H' : Hp} {g l : Addr} {n : Int} (s : Mv T S H H') (m : g ∉ S) (h : GlassAt C H g l n) : GlassAt C H' g l n := let ⟨dx, e⟩ := h; ⟨dx, s.g e m⟩
theorem GlassAt.put {C : Addr} {H : Hp} {g l dx : Addr} {n : Int} : GlassAt C (upd H g (.ins C dx (gf l n))) g l n := ⟨dx, upd_same⟩
end Sp
namespace Sp
open PySem L2 LamX Tri Xc
theorem Mv.set {T : List (Addr × Str)} {S : List Addr} {H0 H : Hp} {D : Addr} {acc xs : List V} (nD : H0 D = none) (e : H D = some (.lst acc)) (n : Mv T S H0 H) : Mv T S H0 (upd H D (.lst xs)) :=
  ⟨fun b o h t m => by rw [upd_ne (fun z => by rw [z, nD] at h; cases h)]; exact n.of b o h t m, fun h => tabs_put e trivial (n.tabs h)⟩
def spFirst (T : List (Addr × Str)) (C : Addr) : L2.Sp := fun vs H Q _ => ∃ (g l : Addr) (n : Int) (ns : List Int) (m : Nat), vs = [.ref g, .int (m : Int)] ∧ GlassAt C H g l n ∧ H l = some (.lst (ns.map V.int)) ∧ ns.length ≤ 1000 ∧
  ∀ (D : Addr) (H' : Hp), Mv T [g] H H' → GlassAt C H' g l (n + ((min ns.length m : Nat) : Int)) → H D = none → H' D = some (.lst ((ns.take m).map V.int)) → Q (.ref D) H'
/-! what stands at a place of the first numbers stands there in all -/
theorem sum_ge {ns : List Int} {f : Int → Nat} (h : ∀ x ∈ ns, 0 < f x) : ns.length ≤ (ns.map f).sum := by
  induction ns with
  | nil => exact Nat.zero_le _
  | cons x ns ih =>
    rw [List.map_cons, List.sum_cons, List.length_cons]
    have h1 := h x List.mem_cons_self
    have h2 := ih fun y hy => h y (List.mem_cons_of_mem _ hy)
    omega
theorem sum_none {ns : List Int} {f : Int → Nat} (h : ∀ x ∈ ns, f x = 0) : (ns.map f).sum = 0 := by
  induction ns with
  | nil => rfl
  | cons x ns ih =>
    rw [List.map_cons, List.sum_cons, h x List.mem_cons_self, ih fun y hy => h y (List.mem_cons_of_mem _ hy)]
theorem cntS_first {ns : List Int} (sn : ns.Pairwise (· ≤ ·)) (ms : List Int) (r : Int) (N : Nat) (h : cntS (ns.take N) ms r < N) : cntS (ns.take N) ms r = cntS ns ms r := by
  have e := cntS_append (ns.take N) (ns.drop N) ms r
  rw [List.take_append_drop] at e
  rw [e]
  by_cases z : ns.length ≤ N
  · rw [List.drop_eq_nil_of_le z, cntS_nil]
    rfl
  · obtain ⟨x, hx, x0⟩ : ∃ x ∈ ns.take N, cntB ms (r - x) = 0 := by
      apply Classical.byContradiction
      intro no
      have := sum_ge (ns := ns.take N) (f := fun x => cntB ms (r - x)) fun x hx => Nat.pos_of_ne_zero fun e => no ⟨x, hx, e⟩
      rw [List.length_take, Nat.min_eq_left (by omega)] at this
      have h2 : ((ns.take N).map fun x => cntB ms (r - x)).sum < N := h
      omega
    have d0 : cntS (ns.drop N) ms r = 0 := sum_none fun y hy => by
      have xy : x ≤ y := by
        rw [← List.take_append_drop N ns] at sn
        exact (List.pairwise_append.mp sn).2.2 x hx y hy
      have := cntB_mono (ms := ms) (show r - y ≤ r - x by omega)
      omega
    rw [d0]
    rfl
theorem cntS_firsts {ns ms : List Int} (sn : ns.Pairwise (· ≤ ·)) (sm : ms.Pairwise (· ≤ ·)) (r : Int) (N : Nat) (h : cntS (ns.take N) (ms.take N) r < N) : cntS (ns.take N) (ms.take N) r = cntS ns ms r := by
  have h1 : cntS (ms.take N) (ns.take N) r = cntS ms (ns.take N) r := cntS_first sm _ r N (by rw [cntS_comm]; exact h)
  rw [cntS_comm, cntS_comm (ns.take N) ms] at h1
  rw [h1] at h ⊢
  exact cntS_first sn ms r N h
theorem cntS_part {ns ms : List Int} (r : Int) (N : Nat) : cntS (ns.take N) (ms.take N) r ≤ cntS ns ms r := by
  have a : ∀ (ks : List Int), cntS (ns.take N) ks r ≤ cntS ns ks r := fun ks => by
    have e := cntS_append (ns.take N) (ns.drop N) ks r
    rw [List.take_append_drop] at e
    omega
  have b : cntS (ns.take N) (ms.take N) r ≤ cntS (ns.take N) ms r := by
    have e := cntS_append (ms.take N) (ms.drop N) (ns.take N) r
    rw [List.take_append_drop, cntS_comm (ns.take N) ms, cntS_comm (ns.take N) (ms.take N)] at e
    omega
  exact Nat.le_trans b (a ms)
theorem firsts_place {ns ms : List Int} {n : Nat} (h : n < ns.length * ms.length) : n < (ns.take (n + 1)).length * (ms.take (n + 1)).length := by
  have l1 : 0 < ns.length := Nat.pos_of_ne_zero fun e => by rw [e] at h; omega
  have l2 : 0 < ms.length := Nat.pos_of_ne_zero fun e => by rw [e] at h; omega
  rw [List.length_take, List.length_take]
  by_cases z1 : n + 1 ≤ ns.length
  · rw [Nat.min_eq_left z1]
    exact Nat.lt_of_lt_of_le (Nat.lt_succ_self n) (Nat.le_mul_of_pos_right _ (by omega))
  · by_cases z2 : n + 1 ≤ ms.length
    · rw [Nat.min_eq_left z2]
      exact Nat.lt_of_lt_of_le (Nat.lt_succ_self n) (Nat.le_mul_of_pos_left _ (by omega))
    · rw [Nat.min_eq_right (by omega), Nat.min_eq_right (by omega)]
      exact h
/-- the number at a place is one alone -/
theorem cut_one {ns ms : List Int} {n : Nat} {r q : Int} (a1 : cntS ns ms r ≤ n) (a2 : n < cntS ns ms (r + 1)) (b1 : cntS ns ms q ≤ n) (b2 : n < cntS ns ms (q + 1)) : r = q := by
  apply Classical.byContradiction
  intro no
  by_cases z : r < q
  · have := cntS_mono (ns := ns) (ms := ms) (show r + 1 ≤ q by omega)
    omega
  · have := cntS_mono (ns := ns) (ms := ms) (show q + 1 ≤ r by omega)
    omega
def spByLooks (C : Addr) (T : List (Addr × Str)) : L2.Sp := fun vs H Q _ => ∃ (g1 g2 l1 l2 : Addr) (t1 t2 : Int) (ns ms : List Int) (n : Nat), vs = [.ref g1, .ref g2, .int (n : Int)] ∧ GlassAt C H g1 l1 t1 ∧ GlassAt C H g2 l2 t2 ∧ g1 ≠ g2 ∧ H l1 = some (.lst (ns.map V.int)) ∧ H l2 = some (.lst (ms.map V.int)) ∧
  ns.Pairwise (· ≤ ·) ∧ ms.Pairwise (· ≤ ·) ∧ ns.length ≤ 1000 ∧ ms.length ≤ 1000 ∧ n < ns.length * ms.length ∧ Tabs T H ∧
  ∀ (r : Int) (H' : Hp), Mv T [g1, g2] H H' → GlassAt C H' g1 l1 (t1 + ((min ns.length (n + 1) : Nat) : Int)) → GlassAt C H' g2 l2 (t2 + ((min ms.length (n + 1) : Nat) : Int)) → cntS ns ms r ≤ n → n < cntS ns ms (r + 1) → Q (.int r) H'
def spByLooksR (K : PySem.W.Frag) (C CP : Addr) : L2.Sp := fun vs H _ E => ∃ (g1 g2 l1 l2 : Addr) (t1 t2 : Int) (ns ms : List Int) (x : V), vs = [.ref g1, .ref g2, x] ∧ GlassAt C H g1 l1 t1 ∧ GlassAt C H g2 l2 t2 ∧ H l1 = some (.lst (ns.map V.int)) ∧ H l2 = some (.lst (ms.map V.int)) ∧ ns.length ≤ 1000 ∧ ms.length ≤ 1000 ∧
  Bad K H x ((ns.length : Int) * (ms.length : Int)) ∧ E (.ref CP) none H
end Sp
namespace Sp
open PySem L2 LamX Tri Xc
def spRefused19 (K : PySem.W.Frag) (C : Addr) : L2.Sp := fun vs H Q _ => ∃ (p g1 g2 l1 l2 : Addr) (t1 t2 : Int) (ns ms : List Int) (x : V), vs = [.ref p, x] ∧ H p = some (.lst [.ref g1, .ref g2]) ∧ GlassAt C H g1 l1 t1 ∧ GlassAt C H g2 l2 t2 ∧ H l1 = some (.lst (ns.map V.int)) ∧ H l2 = some (.lst (ms.map V.int)) ∧ ns.length ≤ 1000 ∧ ms.length ≤ 1000 ∧
  Bad K H x ((ns.length : Int) * (ms.length : Int)) ∧ ∀ H', Same H H' → Q (.bl true) H'
end Sp
namespace Sp
open PySem L2 LamX Tri Xc
theorem glass_made {K : PySem.W.Frag} {C p g dx : Addr} {H : Hp} {xs : List V} {Q : VK} {E : XK} (hp : SqL K H p xs) (ng : H g = none) (nd : H dx = none) (ne : dx ≠ g) (q : ∀ (l : Addr) (H' : Hp), Same H H' → H l = none → l ≠ g → GlassAt C H' g l 0 → H' l = some (.lst xs) → Q .non H') :
    spGInit K C [.ref g, .ref p] (upd (upd H dx (.own g)) g (.ins C dx [])) Q E := by
  have s : Same H (upd (upd H dx (.own g)) g (.ins C dx [])) := fun b o e => by
    rw [upd_ne (ne_of_none e ng), upd_ne (ne_of_none e nd)]
    exact e
  refine ⟨g, dx, p, xs, rfl, upd_same, s.seq hp, fun l hl => ?_⟩
  have nlg : l ≠ g := fun z => by rw [z, upd_same] at hl; cases hl
  have nld : l ≠ dx := fun z => by rw [upd_ne nlg, z, upd_same] at hl; cases hl
  have hl0 : H l = none := by rw [upd_ne nlg, upd_ne nld] at hl; exact hl
  refine q l _ (fun b o e => ?_) hl0 nlg ⟨dx, upd_same⟩ (by rw [upd_ne nlg, upd_same])
  rw [upd_ne (ne_of_none e ng), upd_ne (ne_of_none e hl0)]
  exact s b o e
end Sp
namespace Sp
open PySem L2 LamX Tri Xc
theorem Ext.put {a p : Addr} {H0 H : Hp} {o : HO} (n : H0 p = none) (na : p ≠ a) (x : Ext a H0 H) : Ext a H0 (upd H p o) := by
  refine ⟨fun b u e m => ?_, fun h => ?_⟩
  · rw [upd_ne (ne_of_none e n)]
    exact x.keep b u e m
  · obtain ⟨u, v, e, r⟩ := x.hand h
    exact ⟨u, v, by rw [upd_ne na.symm]; exact e, r⟩
/-! all sums, sorted -/
def spSums18 (K : PySem.W.Frag) : L2.Sp := fun vs H Q _ => ∃ (p q : Addr) (ns ms : List Int), vs = [.ref p, .ref q] ∧ SqL K H p (ns.map V.int) ∧ SqL K H q (ms.map V.int) ∧ ns.length ≤ 300 ∧ ms.length ≤ 300 ∧
  ∀ (r : Addr) (us : List Int) (H' : Hp), Same H H' → H r = none → H' r = some (.lst (us.map V.int)) → us.Perm (ns.flatMap fun x => ms.map fun y => x + y) → us.Pairwise (· ≤ ·) → Q (.ref r) H'
theorem cntB_all_sums (ms : List Int) (m : Int) : ∀ ns : List Int, cntB (ns.flatMap fun x => ms.map fun y => x + y) m = cntS ns ms m
  | [] => rfl
  | x :: ns => by
    rw [List.flatMap_cons, cntS_cons, ← cntB_all_sums ms m ns]
    unfold cntB
    rw [List.countP_append, List.countP_map]
    congr 1
    refine List.countP_congr fun y _ => ?_
    show decide (x + y < m) = true ↔ decide (y < m - x) = true
    rw [decide_eq_true_iff, decide_eq_true_iff]
    omega
theorem all_sums_len (ms : List Int) : ∀ ns : List Int, (ns.flatMap fun x => ms.map fun y => x + y).length = ns.length * ms.length
  | [] => by simp
  | x :: ns => by
    rw [List.flatMap_cons, List.length_append, all_sums_len ms ns, List.length_map, List.length_cons, Nat.succ_mul]
    omega
theorem sums18_at {us ns ms : List Int} {n : Nat} {v : Int} (hp : us.Perm (ns.flatMap fun x => ms.map fun y => x + y)) (hs : us.Pairwise (· ≤ ·)) (h : us[n]? = some v) : cntS ns ms v ≤ n ∧ n < cntS ns ms (v + 1) := by
  have e : ∀ m, cntB us m = cntS ns ms m := fun m => by
    rw [← cntB_all_sums]
    exact hp.countP_eq _
  have h1 := cntB_lt hs (n := v) h
  have h2 := cntB_lt hs (n := v + 1) h
  rw [e] at h1 h2
  refine ⟨?_, h2.mp (by omega)⟩
  have : ¬ n < cntS ns ms v := fun z => by
    have := h1.mpr z
    omega
  omega
def spLooked (C : Addr) : L2.Sp := fun vs H Q _ => ∃ (a p : Addr) (ns : List Int), vs = [.ref a, .ref p] ∧ HandAt H a ∧ p ≠ a ∧ H p = some (.lst (ns.map V.int)) ∧ ns.length ≤ 300 ∧
  ∀ (g l : Addr) (t : Int) (H' : Hp), Ext a H H' → H g = none → g ≠ a → H l = none → l ≠ a → l ≠ g → 0 ≤ t → t ≤ 10 → GlassAt C H' g l t → H' l = some (.lst (ns.map V.int)) → Q (.ref g) H'
def spRight18 (T : List (Addr × Str)) : L2.Sp := fun vs H Q _ => ∃ (a p q : Addr) (ns ms : List Int) (n : Nat) (due : Int), vs = [.ref a, .ref p, .ref q, .int (n : Int), .int due] ∧ HandAt H a ∧ RowAt H a p ns ∧ RowAt H a q ms ∧ n < ns.length * ms.length ∧ Tabs T H ∧ cntS ns ms due ≤ n ∧ n < cntS ns ms (due + 1) ∧ ∀ H', Ex T a H H' → Q (.bl true) H'
end Sp
namespace Sp
open PySem L2 LamX Tri Xc
theorem Mv.toEx {T : List (Addr × Str)} {a g1 g2 : Addr} {H H' : Hp} (m : Mv T [a, g1, g2] H H') (h : HandAt H' a) (n1 : H g1 = none) (n2 : H g2 = none) : Ex T a H H' := by
  refine ⟨fun b o e t ne => m.of b o e t fun z => ?_, fun _ => h, m.tabs⟩
  simp only [List.mem_cons, List.not_mem_nil, or_false] at z
  rcases z with rfl | rfl | rfl
  · exact ne rfl
  · rw [n1] at e; cases e
  · rw [n2] at e; cases e
end Sp
namespace Sp
open PySem L2 LamX Tri Xc
theorem call_len_K {X : Cx} {K : PySem.W.Frag} (hK : X.K = K) : CallR X (.builtin "len") (fun xs H Q => ∃ p ys, xs = [.ref p] ∧ (SqL K H p ys ∨ SqT K H p ys) ∧ Q (.int (ys.length : Int)) H) := hK ▸ call_len_seq
end Sp
namespace Sp
open PySem L2 LamX Tri Xc
def spDeed17 (C : Addr) : L2.Sp := fun vs H Q _ => ∃ (a e g l o : Addr) (t : Int) (ns : List Int), vs = [.ref a, .ref e] ∧ HandAt H a ∧ H e = some (.lst [.ref g, .ref o, .int t]) ∧ GlassAt C H g l t ∧ H l = some (.lst (ns.map V.int)) ∧ H o = some (.lst (ns.map V.int)) ∧ e ≠ a ∧ l ≠ a ∧ o ≠ a ∧ l ≠ e ∧ o ≠ e ∧ ns.length ≤ 300 ∧
  ∀ (t' : Int) (H' : Hp), Mv [] [a, g, e] H H' → HandAt H' a → GlassAt C H' g l t' → H' e = some (.lst [.ref g, .ref o, .int t']) → Q (.bl true) H'
theorem tabs_none {H : Hp} : Tabs [] H := fun _ h => nomatch h
end Sp
namespace Sp
open PySem L2 LamX Tri Xc
theorem TyX.ext {K : PySem.W.Frag} {a : Addr} {H H' : Hp} {v : V} {t : Value} (x : Ext a H H') (h : HandAt H a) (ty : TyX K H v t) : TyX K H' v t := by
  have kp : ∀ {p : Addr} {o : HO}, H p = some o → (∀ l, o ≠ .lst l) → H' p = some o := fun {p o} e n => x.keep p o e fun z => by
    obtain ⟨u, w, e1, _⟩ := h
    rw [z, e1] at e
    exact n _ (Option.some.inj e).symm
  have kl : ∀ {p : Addr} {l : List V}, H p = some (.lst l) → ∃ l', H' p = some (.lst l') := fun {p l} e => by
    by_cases z : p = a
    · obtain ⟨u, w, e1, _⟩ := x.hand h
      exact ⟨_, by rw [z]; exact e1⟩
    · exact ⟨_, x.keep p _ e z⟩
  cases ty with
  | base b =>
    cases b with
    | non => exact .base .non
    | bl y => exact .base (.bl y)
    | int i => exact .base (.int i)
    | str y => exact .base (.str y)
    | flt y => exact .base (.flt y)
    | lst e => obtain ⟨l', e'⟩ := kl e; exact .base (.lst e')
    | frz e => exact .base (.frz (kp e fun _ z => nomatch z))
    | tup e => exact .base (.tup (kp e fun _ z => nomatch z))
    | dK e => exact .base (.dK (kp e fun _ z => nomatch z))
    | dT e => exact .base (.dT (kp e fun _ z => nomatch z))
    | ins e c1 c2 c3 c4 c5 => exact .base (.ins (kp e fun _ z => nomatch z) c1 c2 c3 c4 c5)
  | byt b => exact .byt b
  | set e => exact .set (kp e fun _ z => nomatch z)
  | kList e c => exact .kList e c
  | kTuple e c => exact .kTuple e c
  | kDict e c => exact .kDict e c
  | fTuple e => exact .fTuple (kp e fun _ z => nomatch z)
  | fDict e => exact .fDict (kp e fun _ z => nomatch z)
theorem Bad.ext {K : PySem.W.Frag} {a : Addr} {H H' : Hp} {x : V} {m : Int} (e : Ext a H H') (h : HandAt H a) (b : Bad K H x m) : Bad K H' x m := b.imp id fun ⟨t, n, y⟩ => ⟨t, n, TyX.ext e h y⟩
end Sp
namespace Sp
open PySem L2 LamX Tri Xc
/-- one that is held: its glass, its own row, how many looks are told -/
structure En where
  (e g l o : Addr) (ns : List Int)
structure En.At (C : Addr) (H : Hp) (x : En) (t u : Int) : Prop where
  he : H x.e = some (.lst [.ref x.g, .ref x.o, .int t])
  hg : GlassAt C H x.g x.l u
  hl : H x.l = some (.lst (x.ns.map V.int))
  ho : H x.o = some (.lst (x.ns.map V.int))
structure En.Off (a : Addr) (H0 : Hp) (x : En) : Prop where
  ea : x.e ≠ a
  ga : x.g ≠ a
  la : x.l ≠ a
  oa : x.o ≠ a
  le : x.l ≠ x.e
  oe : x.o ≠ x.e
  ln : x.ns.length ≤ 300
  ne : H0 x.e = none
  ng : H0 x.g = none
/-- what of x is not y's -/
structure En.Dj (x y : En) : Prop where
  e : x.e ≠ y.e
  g : x.g ≠ y.g
  l : x.l ≠ y.e
  o : x.o ≠ y.e
theorem En.At.same {C : Addr} {H H' : Hp} {x : En} {t u : Int} (s : Same H H') (h : x.At C H t u) : x.At C H' t u := ⟨s _ _ h.he, h.hg.same s, s _ _ h.hl, s _ _ h.ho⟩
theorem En.At.ext {C a : Addr} {H H' H0 : Hp} {x : En} {t u : Int} (s : Ext a H H') (f : x.Off a H0) (h : x.At C H t u) : x.At C H' t u := ⟨s.keep _ _ h.he f.ea, let ⟨d, e⟩ := h.hg; ⟨d, s.keep _ _ e f.ga⟩, s.keep _ _ h.hl f.la, s.keep _ _ h.ho f.oa⟩
/-- what is done to y leaves x -/
theorem En.At.mv {C a : Addr} {T : List (Addr × Str)} {H H' H0 : Hp} {x y : En} {t u t' u' : Int} (m : Mv T [a, y.g, y.e] H H') (f : x.Off a H0) (d : x.Dj y) (hy : y.At C H t' u') (h : x.At C H t u) : x.At C H' t u := by
  obtain ⟨dy, gy⟩ := hy.hg
  obtain ⟨dx, gx⟩ := h.hg
  have no : ∀ {b : Addr} {xs : List V}, H b = some (.lst xs) → b ≠ y.g := fun e z => by rw [z, gy] at e; cases e
  exact ⟨m.g h.he (by simp [f.ea, no h.he, d.e]), ⟨dx, m.g gx (by simp only [List.mem_cons, List.not_mem_nil, or_false, not_or]; exact ⟨f.ga, d.g, fun z => by rw [z, hy.he] at gx; cases gx⟩)⟩, m.g h.hl (by simp [f.la, no h.hl, d.l]), m.g h.ho (by simp [f.oa, no h.ho, d.o])⟩
theorem Nx.mv {T : List (Addr × Str)} {S : List Addr} {H0 H H' : Hp} (n : Nx T H0 H) (m : Mv T S H H') (h : ∀ b ∈ S, H0 b = none) : Nx T H0 H' :=
  ⟨fun b o e t => m.of b o (n.of b o e t) t fun z => (by rw [h b z] at e; cases e), fun t => m.tabs (n.tabs t)⟩
theorem Nx.putn {T : List (Addr × Str)} {H0 H : Hp} {p : Addr} {o o' : HO} (n : Nx T H0 H) (h : H0 p = none) (e : H p = some o) (t : NC o) : Nx T H0 (upd H p o') :=
  n.mv (S := [p]) (Mv.put e t (by simp)) fun b hb => by rw [List.mem_singleton.mp hb]; exact h
theorem Nx.ext {T : List (Addr × Str)} {a : Addr} {H0 H H' : Hp} (n : Nx T H0 H) (x : Ext a H H') (h : HandAt H a) (h0 : H0 a = none) : Nx T H0 H' :=
  n.mv (S := [a]) (Mv.ext x h (by simp)) fun b hb => by rw [List.mem_singleton.mp hb]; exact h0
/-- what is new now was new then -/
def Fr (H0 H : Hp) : Prop := ∀ b, H b = none → H0 b = none
theorem Fr.refl {H : Hp} : Fr H H := fun _ h => h
theorem Fr.same {H0 H H' : Hp} (f : Fr H0 H) (s : Same H H') : Fr H0 H' := fun b h => f b (s.free h)
theorem Fr.ext {a : Addr} {H0 H H' : Hp} (f : Fr H0 H) (x : Ext a H H') (h : HandAt H a) : Fr H0 H' := fun b e => f b (x.free (HandAt.ne (x.hand h) e) e)
theorem Fr.put {H0 H : Hp} {p : Addr} {o : HO} (f : Fr H0 H) : Fr H0 (upd H p o) := fun b h => by
  by_cases z : b = p
  · rw [z, upd_same] at h; cases h
  · rw [upd_ne z] at h; exact f b h
end Sp
namespace Sp
open PySem L2 LamX Tri Xc
theorem En.At.mine {C a : Addr} {T : List (Addr × Str)} {H H' H0 : Hp} {x : En} {t u t' u' : Int} (m : Mv T [a, x.g, x.e] H H') (f : x.Off a H0) (h : x.At C H t u) (G : GlassAt C H' x.g x.l u') (e : H' x.e = some (.lst [.ref x.g, .ref x.o, .int t'])) : x.At C H' t' u' := by
  obtain ⟨d, g⟩ := h.hg
  have no : ∀ {b : Addr} {xs : List V}, H b = some (.lst xs) → b ≠ x.g := fun e z => by rw [z, g] at e; cases e
  exact ⟨e, G, m.g h.hl (by simp [f.la, no h.hl, f.le]), m.g h.ho (by simp [f.oa, no h.ho, f.oe])⟩
/-- what stands elsewhere is put -/
theorem En.At.put {C p : Addr} {H : Hp} {x : En} {t u : Int} {xs : List V} {o : HO} (h : x.At C H t u) (hp : H p = some (.lst xs)) (e : x.e ≠ p) (l : x.l ≠ p) (o' : x.o ≠ p) : x.At C (upd H p o) t u := by
  obtain ⟨d, g⟩ := h.hg
  exact ⟨by rw [upd_ne e]; exact h.he, ⟨d, by rw [upd_ne (fun z => by rw [z, hp] at g; cases g)]; exact g⟩, by rw [upd_ne l]; exact h.hl, by rw [upd_ne o']; exact h.ho⟩
theorem HandAt.put {a p : Addr} {H : Hp} {o : HO} (h : HandAt H a) (n : p ≠ a) : HandAt (upd H p o) a := by
  obtain ⟨x, y, e, r⟩ := h
  exact ⟨x, y, by rw [upd_ne n.symm]; exact e, r⟩
theorem RowAt.put {a p q : Addr} {H : Hp} {ns : List Int} {o : HO} (h : RowAt H a p ns) (n : p ≠ q) : RowAt (upd H q o) a p ns := ⟨by rw [upd_ne n]; exact h.at_, h.ne, h.fine, h.len⟩
end Sp
namespace Sp
open PySem L2 LamX Tri Xc
def Dj2 (x y : En) : Prop := x.Dj y ∧ y.Dj x
def evs (es : List En) : List V := es.map fun x => V.ref x.e
end Sp

/-! xs[:0] = ys: another list's items are put ahead. -/
namespace Sl
open PySem PySem.Spec PyProof.Rows L2
theorem front_bounds (n : Nat) : sliceBounds none (some (0 : Int)) none n = (0, 0, 1) := by
  simp [sliceBounds]
  omega
section
variable {prog : Program} {w : World} {A : Around} {E : Value → Shared → Prop} {z : Shared}
theorem front_items {d b sl : Addr} {old new : Array Value} {n n2 : Nat} {hi : Value} {Q : Unit → Shared → Prop} (e : z.heap.get? d = some { cls := .type "list", data := .seq old n }) (e2 : z.heap.get? b = some { cls := .type "list", data := .seq new n2 }) (apart : d ≠ b)
    (hs : z.heap.IsSliceOf sl .none hi .none) (pu : IsPart hi (some (0 : Int))) (room : old.size + new.size ≤ sizeLine) (h : Q () { z with heap := z.heap.update d (Obj.mapSeq fun xs => new ++ xs) }) : wpAny (model prog w) A (setItem (.ref d) (.ref sl) (.ref b)) Q E z := by
  have D : z.heap.IsList d old := PySem.IsL.isList e
  have N : z.heap.IsList b new := PySem.IsL.isList e2
  obtain ⟨os, os1, os2, os3⟩ := id hs
  have tS : z.TypeIs (.ref sl) "slice" := ⟨os, os1, os2⟩
  have step : ¬ ((rawPart none == rawInt 0) = true) := Bool.false_ne_true
  have other : Builtin.List.listSameRef (.ref d) (.ref b) = false := by unfold Builtin.List.listSameRef; exact beq_eq_false_iff_ne.mpr apart
  have room2 : ((fun xs : Array Value => xs.extract 0 0 ++ new ++ xs.extract 0 xs.size) old).size ≤ sizeLine + 1 := by simp only [Array.size_append, Array.size_extract]; omega
  have same : ∀ xs : Array Value, xs.extract 0 0 ++ new ++ xs.extract 0 xs.size = new ++ xs := fun xs => by simp
  unfold setItem
  try (with_reducible refine wpAny_holding ?_)
  first | refine wpAny_bind (wpAny_pure ?_) | (skip)
  refine wpAny_bind (wpAny_sequenceKey D.typeIs (by decide) (wpAny_bind (wpAny_callSpecial?_slot (name := Str.ofString "__setitem__") D.typeIs slot_list_setitem (wpAny_call_entry slot_list_setitem D.typeIs entry_list_setitem ?_ (args_list_setitem _ _ _)))))
  show wpAny _ _ (Builtin.List.listSubscript? (.ref sl) >>= _) _ _ z
  refine wpAny_bind ?_; unfold Builtin.List.listSubscript?; refine wpAny_bind (wpAny_specialOf tS slice_no_index ?_); simp only [Option.isNone_none, if_true]; refine wpAny_pure ?_
  show wpAny _ _ (typeOf (.ref sl) >>= _) _ _ z
  refine wpAny_bind (wpAny_typeOf tS ?_)
  first | rw [if_neg (by decide)] | refine PySem.W.KFB.if_not (by decide) ?_
  rw [listSliceParts_eq]
  refine wpAny_bind (wpAny_bind (wpAny_field os1 os3 (x := .none) rfl (wpAny_bind (wpAny_listPart .none ?_))))
  rw [if_neg step]
  refine wpAny_bind (wpAny_field os1 os3 (x := .none) rfl (wpAny_bind (wpAny_listPart .none (wpAny_bind (wpAny_field os1 os3 (x := hi) rfl (wpAny_bind (wpAny_listPart pu (wpAny_pure ?_))))))))
  first | simp only [other, Bool.false_eq_true, if_false] | refine PySem.W.KFB.if_not other ?_ | (dsimp only; rw [if_neg (by rw [other]; exact Bool.false_ne_true)])
  refine wpAny_bind (m := Builtin.List.listAllItems (.ref b) "must assign iterable to extended slice") ?_; unfold Builtin.List.listAllItems
  refine wpAny_bind (wpAny_typeOf N.typeIs ?_)
  first | refine PySem.W.KFB.if_so (by decide) ?_ | rw [if_pos (by decide)] | simp only [beq_self_eq_true, Bool.true_or, if_true]
  unfold Builtin.List.listItems
  refine wpAny_bind (wpAny_seqItems e2 rfl (wpAny_pure (wpAny_bind (wpAny_bind (wpAny_seqItems e rfl (wpAny_pure ?_))))))
  refine wpAny_bind (wpAny_of_eq ((sliceIndices_raw none (some (0 : Int)) none old.size (by simp)).trans (congrArg (pure : Int × Int × Int → Sem (Int × Int × Int)) (front_bounds _))) ?_)
  show wpAny _ _ (if ((1 : Int) == 1) = true then _ else _) _ _ z
  rw [if_pos (by decide)]
  refine wpAny_bind (wpAny_rule ?_); first | simp only [notLongL room, Bool.false_eq_true, if_false] | refine PySem.W.KFB.if_not (notLongL room) ?_
  first | refine wpAny_bind (wpAny_pure ?_) | (skip)
  show wpAny _ _ (updateSeq d (fun xs => xs.extract 0 ((0 : Int)).toNat ++ new ++ xs.extract (max (0 : Int) (0 : Int)).toNat xs.size) >>= _) _ _ z
  refine wpAny_bind (wpAny_updateSeq (hz := Nat.le_trans (Nat.le_add_right _ _) room) (_hz' := room2) e rfl (wpAny_bind (wpAny_letGo ?_)))
  have h' : Q () { z with heap := z.heap.update d (Obj.mapSeq fun xs => xs.extract 0 0 ++ new ++ xs.extract 0 xs.size) } := by
    rw [show (fun xs : Array Value => xs.extract 0 0 ++ new ++ xs.extract 0 xs.size) = fun xs => new ++ xs from funext same]
    exact h
  first | exact wpAny_bind (wpAny_pure (wpAny_pure ⟨.none, rfl, wpAny_pure h'⟩)) | exact wpAny_pure ⟨.none, rfl, wpAny_pure h'⟩
end
section
variable {X : Cx} {o value : Expr} {hi : Option Expr} {tv ta : TE} {th : TO} {p1 p2 pos : Pos}
/-- o[:0] = value -/
def sFront (tv ta : TE) (th : TO) : TS := fun D σ H => tv σ H fun y H1 => ta σ H1 fun x H2 => th σ H2 fun u H3 => u = some 0 ∧ ∃ (d b : Addr) (xs ys : List V), x = .ref d ∧ y = .ref b ∧ H3 d = some (.lst xs) ∧ H3 b = some (.lst ys) ∧ d ≠ b ∧ xs.length + ys.length ≤ sizeLine ∧ D.nx σ (upd H3 d (.lst (ys ++ xs)))
theorem ps_front (ha : PE X o ta) (hv : PE X value tv) (hh : PO X hi th) (hs : swapsWith value (some (.Subscript o (.Slice none hi none p2) p1)) pos.line X.env = pure false) : PS X (.Assign [.Subscript o (.Slice none hi none p2) p1] value pos) (sFront tv ta th) := by
  refine ⟨fun pins z σ H D I h => ?_⟩
  refine wpAny_Assign_Subscript (thn (hv.run pins z σ H _ I h) fun r z1 ⟨y, H1, I1, ry, q1⟩ => thn (ha.run pins z1 σ H1 _ I1 q1) fun u z2 ⟨x, H2, I2, rx, q2⟩ => wpAny_Slice ?_) hs
  rw [evalPart_none]
  refine wpAny_pure (thn (hh.run pins z2 σ H2 _ I2 q2) fun vu z3 ⟨k, H3, I3, pu, e0, d, b, xs, ys, ex, ey, hd, hb, ne, room, q3⟩ => ?_)
  subst e0 ex ey
  obtain rfl : u = Value.ref d := rx
  obtain rfl : r = Value.ref b := ry
  refine wpAny_pure ?_
  have I4 : Inv X pins σ H3 { z3 with heap := z3.heap.push { cls := .type "slice", data := .fields #[.none, vu, .none] } } := I3.kept (t' := z3.toks) fun c ob q => Heap.get?_push_of_some _ q
  obtain ⟨_, its, n, r, hl, e⟩ := I4.lstM hd
  obtain ⟨_, its2, n2, r2, hl2, e2⟩ := I4.lstM hb
  refine front_items (sl := z3.heap.objs.size) e e2 ne (Heap.IsSliceOf.new ..) pu (by rw [List.size_toArray, List.size_toArray, ← r.length, ← r2.length]; exact room) ?_
  refine I4.lset (its' := its2 ++ its) (t' := z3.toks) hd e ?_ (Vals.append r2 r) (by rw [List.length_append]; omega) |> fun J => ⟨σ, _, J, q3⟩
  simp
end
end Sl

/-! three rows behind glass. -/
namespace Sp
open PySem L2 LamX Tri Xc
theorem rowP_fst (x : Int) (i : Nat) : ∀ (ms : List Int) (j : Nat), (rowP x i ms j).map (·.1) = ms.map fun y => x + y
  | [], _ => rfl
  | y :: ms, j => by
    show (x + y) :: (rowP x i ms (j + 1)).map (·.1) = _
    rw [rowP_fst x i ms (j + 1)]
    rfl
theorem allP_fst (ms : List Int) : ∀ (ns : List Int) (i : Nat), (allP ns i ms).map (·.1) = ns.flatMap fun x => ms.map fun y => x + y
  | [], _ => rfl
  | x :: ns, i => by
    show (rowP x i ms 0 ++ allP ns (i + 1) ms).map (·.1) = _
    rw [List.map_append, rowP_fst, allP_fst ms ns (i + 1), List.flatMap_cons]
theorem ord_cnt {ns ms : List Int} {L : List T3} (o : Tri.Ord ns ms L) {n : Nat} {w : T3} (h : L[n]? = some w) : cntS ns ms w.1 ≤ n ∧ n < cntS ns ms (w.1 + 1) := by
  have hp : (L.map (·.1)).Perm (ns.flatMap fun x => ms.map fun y => x + y) := by
    rw [← allP_fst ms ns 0]
    exact o.perm.map _
  have hs : (L.map (·.1)).Pairwise (· ≤ ·) := List.pairwise_map.mpr (o.sort.imp fun {a b} h => by unfold before at h; omega)
  exact sums18_at hp hs (by rw [List.getElem?_map, h]; rfl)
structure Gr where
  (g l r : Addr) (ns : List Int)
structure Gr.At (C : Addr) (H : Hp) (x : Gr) (t : Int) : Prop where
  hg : GlassAt C H x.g x.l t
  hl : H x.l = some (.lst (x.ns.map V.int))
  hr : H x.r = some (.lst (x.ns.map V.int))
structure Gr.Off (a : Addr) (H0 : Hp) (x : Gr) : Prop where
  ga : x.g ≠ a
  la : x.l ≠ a
  ra : x.r ≠ a
  ng : H0 x.g = none
  sd : x.ns.Pairwise (· ≤ ·)
  ln : x.ns.length ≤ 300
section
variable {T : List (Addr × Str)} {S : List Addr} {C a p : Addr} {H H' H0 : Hp} {x y z : Gr} {t u : Int} {xs : List V}
theorem Mv.lst (m : Mv T S H H') (hS : ∀ b ∈ S, b = a ∨ ∃ D dx fs, H b = some (.ins D dx fs)) (h : H p = some (.lst xs)) (n : p ≠ a) : H' p = some (.lst xs) :=
  m.g h fun z => by
    rcases hS p z with e | ⟨D, dx, fs, e⟩
    · exact n e
    · rw [e] at h; cases h
theorem Gr.At.same (s : Same H H') (h : x.At C H t) : x.At C H' t := ⟨h.hg.same s, s _ _ h.hl, s _ _ h.hr⟩
theorem Gr.At.ext (s : Ext a H H') (f : x.Off a H0) (h : x.At C H t) : x.At C H' t := ⟨let ⟨d, e⟩ := h.hg; ⟨d, s.keep _ _ e f.ga⟩, s.keep _ _ h.hl f.la, s.keep _ _ h.hr f.ra⟩
/-- what was looked at -/
theorem Gr.At.mine (m : Mv T S H H') (hS : ∀ b ∈ S, b = a ∨ ∃ D dx fs, H b = some (.ins D dx fs)) (f : x.Off a H0) (h : x.At C H t) (G : GlassAt C H' x.g x.l u) : x.At C H' u := ⟨G, m.lst hS h.hl f.la, m.lst hS h.hr f.ra⟩
/-- what was not -/
theorem Gr.At.mv (m : Mv T S H H') (hS : ∀ b ∈ S, b = a ∨ ∃ D dx fs, H b = some (.ins D dx fs)) (f : x.Off a H0) (h : x.At C H t) (n : x.g ∉ S) : x.At C H' t := ⟨h.hg.mv m n, m.lst hS h.hl f.la, m.lst hS h.hr f.ra⟩
end
def spRefused20 (K : PySem.W.Frag) (C : Addr) : L2.Sp := fun vs H Q _ => ∃ (p g1 g2 l1 l2 : Addr) (t1 t2 : Int) (ns ms : List Int) (m : Int), vs = [.ref p, .int m] ∧ H p = some (.tup [.ref g1, .ref g2]) ∧ GlassAt C H g1 l1 t1 ∧ GlassAt C H g2 l2 t2 ∧ H l1 = some (.lst (ns.map V.int)) ∧ H l2 = some (.lst (ms.map V.int)) ∧ ns.length ≤ 1000 ∧ ms.length ≤ 1000 ∧
  Bad K H (.int m) ((ns.length : Int) * (ms.length : Int)) ∧ ∀ H', Same H H' → Q (.bl true) H'
def spLook20 (T : List (Addr × Str)) (C : Addr) : L2.Sp := fun vs H Q _ => ∃ (a : Addr) (x : Gr) (t : Int) (H0 : Hp), vs = [.ref a, .ref x.r, .ref x.g] ∧ HandAt H a ∧ x.At C H t ∧ x.Off a H0 ∧ 0 < x.ns.length ∧ ∀ (u : Int) (H' : Hp), Mv T [a, x.g] H H' → HandAt H' a → GlassAt C H' x.g x.l u → Q (.bl true) H'
def spSum20 (T : List (Addr × Str)) (C : Addr) : L2.Sp := fun vs H Q _ => ∃ (a tp tg : Addr) (x y : Gr) (t u : Int) (H0 : Hp), vs = [.ref a, .ref tp, .ref tg] ∧ HandAt H a ∧ H tp = some (.tup [.ref x.r, .ref y.r]) ∧ H tg = some (.tup [.ref x.g, .ref y.g]) ∧ x.At C H t ∧ y.At C H u ∧ x.Off a H0 ∧ y.Off a H0 ∧ x.g ≠ y.g ∧ 0 < x.ns.length * y.ns.length ∧ Tabs T H ∧
  ∀ (t' u' : Int) (H' : Hp), Mv T [a, x.g, y.g] H H' → HandAt H' a → GlassAt C H' x.g x.l t' → GlassAt C H' y.g y.l u' → Q (.bl true) H'
end Sp
namespace Sp
open PySem L2 LamX Tri Xc
theorem ix_tupK {X : Cx} {K : PySem.W.Frag} (hK : X.K = K) : IxR X (rIxT K) := hK ▸ ix_tup
end Sp
namespace Sp
def GDj (x y : Gr) : Prop := x.g ≠ y.g
end Sp

/-! laws that draw from a list: all stays but that list, which gets shorter. -/
namespace Sp
open PySem L2 LamX Tri
/-- the list of draws -/
def DrawAt (H : Hp) (a : Addr) : Prop := ∃ ds : List Int, H a = some (.lst (ds.map V.int)) ∧ ds.length ≤ 240 ∧ ∀ x ∈ ds, 0 ≤ x ∧ x < 1000
structure ExtD (a : Addr) (H H' : Hp) : Prop where
  keep : ∀ b o, H b = some o → b ≠ a → H' b = some o
  hand : DrawAt H a → DrawAt H' a
section
variable {a b p : Addr} {H H' H1 H2 : Hp} {ns : List Int} {xs : List V} {K : PySem.W.Frag} {T : List (Addr × Str)}
theorem ExtD.refl : ExtD a H H := ⟨fun _ _ h _ => h, fun h => h⟩
theorem ExtD.trans (e : ExtD a H H1) (f : ExtD a H1 H2) : ExtD a H H2 := ⟨fun b o h n => f.keep b o (e.keep b o h n) n, fun h => f.hand (e.hand h)⟩
theorem DrawAt.same (s : Same H H') (h : DrawAt H a) : DrawAt H' a := by
  obtain ⟨ds, e, r⟩ := h
  exact ⟨ds, s _ _ e, r⟩
theorem ExtD.same (s : Same H H') : ExtD a H H' := ⟨fun b o h _ => s b o h, fun h => h.same s⟩
theorem ExtD.new {o : HO} (h : H p = none) : ExtD a H (upd H p o) := .same (same_new h)
theorem DrawAt.ne (h : DrawAt H a) (n : H p = none) : p ≠ a := by
  obtain ⟨ds, e, r⟩ := h
  exact fun z => by rw [z, e] at n; cases n
theorem ExtD.made (e : ExtD a H H') (n : H a = none) : Same H H' := fun b o h => e.keep b o h (fun z => by rw [z, n] at h; cases h)
theorem ExtD.free (e : ExtD a H H') (n : b ≠ a) (h : H' b = none) : H b = none := by
  cases q : H b with
  | none => rfl
  | some o => rw [e.keep b o q n] at h; cases h
theorem seqExtD (e : ExtD a H H') (n : p ≠ a) (h : SqL K H p xs) : SqL K H' p xs := by
  rcases h with (h | ⟨o, h⟩) | h
  · exact .inl (.inl (e.keep _ _ h n))
  · exact .inl (.inr ⟨o, e.keep _ _ h n⟩)
  · exact .inr h
theorem RowAt.upD (r : RowAt H a p ns) (e : ExtD a H H') : RowAt H' a p ns := ⟨e.keep _ _ r.at_ r.ne, r.ne, r.fine, r.len⟩
theorem Nums.upD (n : Nums H a p ns) (e : ExtD a H H') : Nums H' a p ns := ⟨e.keep _ _ n.1 n.2, n.2⟩
theorem Nx.draws (n : Nx T H H') (h : DrawAt H a) : DrawAt H' a := by
  obtain ⟨ds, e, r⟩ := h
  exact ⟨ds, n.g e, r⟩
theorem tabs_draws (h : DrawAt H a) (e : ExtD a H H') (t : Tabs T H) : Tabs T H' := fun q hq => by
  obtain ⟨ds, e0, _⟩ := h
  obtain ⟨ps, h1, h2, h3⟩ := t q hq
  refine ⟨ps, e.keep _ _ h1 (fun z => ?_), h2, fun pos cv hc => ?_⟩
  · rw [z, e0] at h1
    cases h1
  · obtain ⟨c, c1, c2⟩ := h3 pos cv hc
    refine ⟨c, c1, e.keep _ _ c2 fun z => ?_⟩
    rw [z, e0] at c2
    unfold CodeO at c2
    cases c2
/-- all but the draws and the tables -/
structure ExD (T : List (Addr × Str)) (a : Addr) (H H' : Hp) : Prop where
  of : ∀ b o, H b = some o → NT o → b ≠ a → H' b = some o
  hand : DrawAt H a → DrawAt H' a
  tabs : Tabs T H → Tabs T H'
theorem ExD.nx (n : Nx T H H') : ExD T a H H' := ⟨fun b o h t _ => n.of b o h t, n.draws, n.tabs⟩
theorem ExD.same (s : Same H H') : ExD T a H H' := .nx (.same s)
theorem ExD.ext (e : ExtD a H H') (h : DrawAt H a) : ExD T a H H' := ⟨fun b o q _ n => e.keep b o q n, e.hand, tabs_draws h e⟩
theorem ExD.trans (e : ExD T a H H1) (f : ExD T a H1 H2) : ExD T a H H2 := ⟨fun b o h t n => f.of b o (e.of b o h t n) t n, fun h => f.hand (e.hand h), fun h => f.tabs (e.tabs h)⟩
theorem ExD.made (e : ExD T a H H') (n : H a = none) : Nx T H H' := ⟨fun b o h t => e.of b o h t (fun z => by rw [z, n] at h; cases h), e.tabs⟩
theorem ExD.row (e : ExD T a H H') (r : RowAt H a p ns) : RowAt H' a p ns := ⟨e.of _ _ r.at_ trivial r.ne, r.ne, r.fine, r.len⟩
theorem ext_appD {D : Addr} {H0 : Hp} (nD : H0 D = none) (nDa : D ≠ a) (e : ExtD a H0 H) : ExtD a H0 (upd H D (.lst xs)) := ⟨fun c o hc hca => by
    rw [upd_ne (ne_of_none hc nD)]
    exact e.keep c o hc hca, fun hh => by
    obtain ⟨ds, e1, r⟩ := e.hand hh
    exact ⟨ds, by rw [upd_ne nDa.symm]; exact e1, r⟩⟩
theorem RowAt.freed (r : RowAt H a p ns) {c : Addr} : p ≠ c → RowAt H c p ns := fun n => ⟨r.at_, n, r.fine, r.len⟩
end
def spDraws (K : PySem.W.Frag) : L2.Sp := fun vs H Q _ => ∃ (s : Addr) (ns : List Int), vs = [.ref s] ∧ SqL K H s (ns.map V.int) ∧ ns.length ≤ 63 ∧ ∀ (d : Addr) (H' : Hp), Same H H' → H d = none → DrawAt H' d → Q (.ref d) H'
def spTake : L2.Sp := fun vs H Q _ => ∃ (a : Addr) (n : Int), vs = [.ref a, .int n] ∧ DrawAt H a ∧ 0 < n ∧ ∀ r H', ExtD a H H' → 0 ≤ r → r < n → r < 1000 → Q (.int r) H'
def spRowD : L2.Sp := fun vs H Q _ => ∃ (a : Addr) (m : Nat), vs = [.ref a, .int (m : Int)] ∧ DrawAt H a ∧ m ≤ 300 ∧ ∀ (p : Addr) (ns : List Int) (H' : Hp), ExtD a H H' → H p = none → H' p = some (.lst (ns.map V.int)) → ns.length ≤ m → Fine ns → Q (.ref p) H'
/-! steps of a row -/
def OkB (b ms : Int) : Prop := (0 < b ∧ b ≤ 1000 ∧ b - 1 ≤ ms) ∨ (100000 ≤ b ∧ b ≤ ms)
def baseL : List Int := [1, 2, 3, 10, 1000, 100000, 1000000000, 3322259136212]
theorem okB_big {b : Int} (h : b ∈ baseL) : OkB b 3322259136212 := by
  unfold baseL at h
  simp only [List.mem_cons, List.not_mem_nil, or_false] at h
  unfold OkB
  omega
theorem okB_step {b ms t : Int} (h : OkB b ms) (t0 : 0 ≤ t) (t1 : t < 9973) : ∃ s, atI [V.int (t % b), V.int (t * (b / 9973) + t % 7)] (if decide (1000 < b) = true then (1 : Int) else 0) = some (.int s) ∧ 0 ≤ s ∧ s ≤ ms := by
  rcases h with ⟨h1, h2, h3⟩ | ⟨h1, h2⟩
  · rw [if_neg (by simp; omega)]
    have a1 := Int.emod_nonneg t (show b ≠ 0 by omega)
    have a2 := Int.emod_lt_of_pos t h1
    exact ⟨_, at0, a1, by omega⟩
  · rw [if_pos (by simp; omega)]
    have q0 : 0 ≤ b / 9973 := Int.ediv_nonneg (by omega) (by omega)
    have m1 := Int.mul_le_mul_of_nonneg_right (show t ≤ 9972 by omega) q0
    have m2 := Int.mul_nonneg t0 q0
    exact ⟨_, at1, by omega, by omega⟩
/-- a test of any kind: told once what holds behind it, either way -/
theorem test_split {T : (Bool → Hp → Prop) → Prop} {B : Bool → Hp → Prop} (I J : Hp → Prop) (key : ∀ K : Bool → Hp → Prop, (∀ H1, I H1 → K true H1) → (∀ H1, J H1 → K false H1) → T K) (h1 : ∀ H1, I H1 → B true H1) (h2 : ∀ H1, J H1 → B false H1) : T B := key B h1 h2
/-- an if among statements, its test told once -/
theorem if_split {c : TT} {t u z : TS} {D : Ends} {σ : L2.St} {H : Hp} (I J : Hp → Prop) (key : ∀ K : Bool → Hp → Prop, (∀ H1, I H1 → K true H1) → (∀ H1, J H1 → K false H1) → c σ H K) (h1 : ∀ H1, I H1 → t { D with nx := z D } σ H1) (h2 : ∀ H1, J H1 → u { D with nx := z D } σ H1) : tSeq (tIfS c t u) z D σ H :=
  key (fun b H1 => if b = true then t { D with nx := z D } σ H1 else u { D with nx := z D } σ H1) (fun H1 h => by rw [if_pos rfl]; exact h1 H1 h) fun H1 h => by rw [if_neg (by decide)]; exact h2 H1 h
theorem if_one {c : TT} {t u : TS} {D : Ends} {σ : L2.St} {H : Hp} (I J : Hp → Prop) (key : ∀ K : Bool → Hp → Prop, (∀ H1, I H1 → K true H1) → (∀ H1, J H1 → K false H1) → c σ H K) (h1 : ∀ H1, I H1 → t D σ H1) (h2 : ∀ H1, J H1 → u D σ H1) : tIfS c t u D σ H :=
  key (fun b H1 => if b = true then t D σ H1 else u D σ H1) (fun H1 h => by rw [if_pos rfl]; exact h1 H1 h) fun H1 h => by rw [if_neg (by decide)]; exact h2 H1 h
/-- x if c else y, stored; its test told once -/
theorem exp_split {c : TT} {ta tb : TE} {g : TG} {D : Ends} {σ : L2.St} {H : Hp} (I J : Hp → Prop) (key : ∀ K : Bool → Hp → Prop, (∀ H1, I H1 → K true H1) → (∀ H1, J H1 → K false H1) → c σ H K) (h1 : ∀ H1, I H1 → ta σ H1 fun x H2 => g x σ H2 D.nx) (h2 : ∀ H1, J H1 → tb σ H1 fun x H2 => g x σ H2 D.nx) : tAsg (tIf c ta tb) g D σ H :=
  key (fun b H1 => if b = true then ta σ H1 (fun x H2 => g x σ H2 D.nx) else tb σ H1 fun x H2 => g x σ H2 D.nx) (fun H1 h => by rw [if_pos rfl]; exact h1 H1 h) fun H1 h => by rw [if_neg (by decide)]; exact h2 H1 h
end Sp

/-! places of pairs, papers. -/
namespace Sp
open PySem L2 LamX Tri
/-- the place of a pair in the order of sums -/
def placeS (ns ms : List Int) (i j : Nat) (x y : Int) : Nat := cntS ns ms (x + y) + ((ns.take i).map fun z => ms.count (x + y - z)).sum + (ms.take j).count y
/-- among the likes of its number, so many stand ahead -/
theorem place_count {ms : List Int} (hs : ms.Pairwise (· ≤ ·)) {j : Nat} {y : Int} (hy : ms[j]? = some y) : cntB ms y + (ms.take j).count y = j := by
  have lt := (cntB_lt (n := y + 1) hs hy).mp (by omega)
  have nx := cntB_next ms y
  have ge : ¬ j < cntB ms y := fun c => by have := (cntB_lt (n := y) hs hy).mpr c; omega
  obtain ⟨k, rfl⟩ : ∃ k, j = cntB ms y + k := ⟨j - cntB ms y, by omega⟩
  rw [(like_at hs (k := k) (by omega)).2]
theorem cut_sub {ns : List Int} (lo hi : Option Int) : ∃ ms : List Int, cutV (ns.map V.int) lo hi = ms.map V.int ∧ ms.Sublist ns := by
  refine ⟨(ns.drop (HT.sIx ns.length 0 lo)).take (HT.sIx ns.length ns.length hi - HT.sIx ns.length 0 lo), ?_, (List.take_sublist _ _).trans (List.drop_sublist _ _)⟩
  unfold cutV
  rw [List.length_map, List.map_take, List.map_drop]
theorem Fine.sub {ns ms : List Int} (f : Fine ns) (h : ms.Sublist ns) : Fine ms := ⟨f.1.sublist h, fun x hx => f.2 x (h.subset hx)⟩
def spPairGood (K : PySem.W.Frag) : L2.Sp := fun vs H Q _ => ∃ (t p q : Addr) (xs ys : List V) (i j : Nat), vs = [.ref t, .ref p, .ref q] ∧ H t = some (.tup [.int (i : Int), .int (j : Int)]) ∧ SqL K H p xs ∧ SqL K H q ys ∧ i < xs.length ∧ j < ys.length ∧ Q .non H
def spPlaceOf (K : PySem.W.Frag) : L2.Sp := fun vs H Q _ => ∃ (p q t : Addr) (ns ms : List Int) (i j : Nat) (x y : Int), vs = [.ref p, .ref q, .ref t] ∧ SqL K H p (ns.map V.int) ∧ SqL K H q (ms.map V.int) ∧ ns.Pairwise (· ≤ ·) ∧ ms.Pairwise (· ≤ ·) ∧ H t = some (.tup [.int (i : Int), .int (j : Int)]) ∧ ns.length ≤ 1000 ∧ ms.length ≤ 1000 ∧ ns[i]? = some x ∧ ms[j]? = some y ∧
  ∀ H', Same H H' → Q (.int (placeS ns ms i j x y : Nat)) H'
def belowL (ns ms : List Int) (n : Int) : List Int := ns.map fun x => ((cntB ms (n - x) : Nat) : Int)
theorem belowL_len (ns ms : List Int) (n : Int) : (belowL ns ms n).length = ns.length := List.length_map _
theorem belowL_sum (ms : List Int) (n : Int) : ∀ ns : List Int, (belowL ns ms n).sum = ((cntS ns ms n : Nat) : Int)
  | [] => rfl
  | x :: ns => by
    show (_ :: belowL ns ms n).sum = _
    rw [List.sum_cons, belowL_sum ms n ns, cntS_cons, Int.natCast_add]
theorem belowL_at {ns ms : List Int} {n x : Int} {i : Nat} (h : ns[i]? = some x) : (belowL ns ms n)[i]? = some ((cntB ms (n - x) : Nat) : Int) := by
  unfold belowL
  rw [List.getElem?_map, h]
  rfl
def spBelowL (K : PySem.W.Frag) : L2.Sp := fun vs H Q _ => ∃ (p q : Addr) (ns ms : List Int) (n : Int), vs = [.ref p, .ref q, .int n] ∧ SqL K H p (ns.map V.int) ∧ SqL K H q (ms.map V.int) ∧ ns.Pairwise (· ≤ ·) ∧ ms.Pairwise (· ≤ ·) ∧ ns.length ≤ 1000 ∧
  ∀ (r : Addr) (H' : Hp), Same H H' → H r = none → H' r = some (.lst ((belowL ns ms n).map V.int)) → Q (.ref r) H'
def spWhole1 : L2.Sp := fun vs H Q _ => ∃ n : Int, vs = [.int n] ∧ Q (.bl true) H
def spSmall42 (K : PySem.W.Frag) : L2.Sp := fun vs H Q _ => ∃ (p q : Addr) (ns ms : List Int), vs = [.ref p, .ref q] ∧ SqL K H p (ns.map V.int) ∧ SqL K H q (ms.map V.int) ∧ ns.Pairwise (· ≤ ·) ∧ ms.Pairwise (· ≤ ·) ∧ ns.length ≤ 300 ∧ ms.length ≤ 300 ∧ ∀ H', Same H H' → Q (.bl true) H'
/-- what the law adds up, row by row -/
def stairs (ns ms : List Int) (s : Int) (i j : Nat) (k : Nat) : Int := (((ns.take k).map fun z => ((cntB ms (s - z) : Nat) : Int)).sum + (((ns.take k).take i).map fun z => ((ms.count (s - z) : Nat) : Int)).sum) + (if i < k then (j : Int) - ((cntB ms (s - (ns.getD i 0)) : Nat) : Int) else 0)
theorem stairs_all {ns ms : List Int} (sm : ms.Pairwise (· ≤ ·)) {i j : Nat} {x y : Int} (hx : ns[i]? = some x) (hy : ms[j]? = some y) : stairs ns ms (x + y) i j ns.length = ((placeS ns ms i j x y : Nat) : Int) := by
  have li := (List.getElem?_eq_some_iff.mp hx).1
  have g : ns.getD i 0 = x := by rw [List.getD_eq_getElem?_getD, hx]; rfl
  have tc := place_count sm hy
  have c1 : ∀ l : List Int, (l.map fun z => ((cntB ms (x + y - z) : Nat) : Int)).sum = ((cntS l ms (x + y) : Nat) : Int) := fun l => belowL_sum ms (x + y) l
  have c2 : ∀ l : List Int, (l.map fun z => ((ms.count (x + y - z) : Nat) : Int)).sum = (((l.map fun z => ms.count (x + y - z)).sum : Nat) : Int) := by
    intro l
    induction l with
    | nil => rfl
    | cons z l ih => rw [List.map_cons, List.sum_cons, List.map_cons, List.sum_cons, ih, Int.natCast_add]
  unfold stairs placeS
  rw [take_all, if_pos li, g, c1, c2, show x + y - x = y from by omega]
  omega
theorem stairs_next {ns ms : List Int} {s z : Int} {i j k : Nat} (h : ns[k]? = some z) : stairs ns ms s i j (k + 1) = stairs ns ms s i j k + ((cntB ms (s - z) : Nat) : Int) + (if k < i then ((cntB ms (s + 1 - z) : Nat) : Int) - ((cntB ms (s - z) : Nat) : Int) else 0) + (if k = i then (j : Int) - ((cntB ms (s - z) : Nat) : Int) else 0) := by
  have lk := (List.getElem?_eq_some_iff.mp h).1
  have lt : (ns.take k).length = k := by rw [List.length_take]; omega
  have nx := cntB_next ms (s - z)
  unfold stairs
  rw [take_snoc h, List.map_append, List.sum_append]
  simp only [List.map_cons, List.map_nil, List.sum_cons, List.sum_nil]
  rcases Nat.lt_trichotomy k i with c | c | c
  · have t1 : (ns.take k ++ [z]).take i = ns.take k ++ [z] := List.take_of_length_le (by rw [List.length_append, lt]; simp; omega)
    have t2 : (ns.take k).take i = ns.take k := List.take_of_length_le (by omega)
    rw [t1, t2, if_neg (by omega), if_neg (by omega), if_pos c, if_neg (by omega), List.map_append, List.sum_append]
    simp only [List.map_cons, List.map_nil, List.sum_cons, List.sum_nil]
    rw [show s + 1 - z = s - z + 1 from by omega]
    omega
  · subst c
    have g : ns.getD k 0 = z := by rw [List.getD_eq_getElem?_getD, h]; rfl
    rw [List.take_append_of_le_length (by omega), if_pos (by omega), if_neg (by omega), if_neg (by omega), if_pos rfl, g]
    omega
  · rw [List.take_append_of_le_length (by omega), if_pos (by omega), if_pos c, if_neg (by omega), if_neg (by omega)]
    omega
/-! numbers that are asked for -/
theorem op_mul_str {X : Cx} : OpR X (binaryOp .Mult) (fun x y H Q => ∃ (i : Str) (n : Int), x = .str i ∧ y = .int n ∧ MulOk i n ∧ Q (.str (Txt.mul i n)) H) := by
  intro pins s σ H x y v u Q I rx ry h
  obtain ⟨i, n, rfl, rfl, ok, q⟩ := h
  obtain ⟨t, rfl⟩ := rx
  obtain ⟨t', rfl⟩ := ry
  exact SB.mul ok fun t' tk => ⟨.str (Txt.mul i n), H, I.tok _, ⟨_, rfl⟩, q⟩
theorem noughts_ok : ∀ k : Fin 41, (decide (((k.val : Nat) : Int) < -(2 ^ 63 : Int)) || decide (((k.val : Nat) : Int) ≥ 2 ^ 63)) = false ∧ PySem.intText? (("1" : Str) ++ Txt.mul "0" ((k.val : Nat) : Int)) = some (10 ^ k.val) ∧ (("1" : Str) ++ Txt.mul "0" ((k.val : Nat) : Int)).length ≤ 640 ∧ ("1" : Str).length + (Txt.mul "0" ((k.val : Nat) : Int)).length ≤ sizeLine := by decide +kernel
theorem noughts_mul {n : Int} (h0 : 0 ≤ n) (h1 : n < 41) : MulOk "0" n := by
  obtain ⟨k, rfl⟩ : ∃ k : Nat, n = (k : Int) := ⟨n.toNat, by omega⟩
  refine ⟨(noughts_ok ⟨k, by omega⟩).1, fun h2 _ => ?_, fun _ _ => ?_⟩
  · have e : (("0" : Str).length : Int) = 1 := by decide
    rw [e]
    have : (1 : Int) ≤ (2 ^ 63 - 1) / (k : Int) := by
      rw [Int.le_ediv_iff_mul_le (by omega)]
      omega
    omega
  · have e : ("0" : Str).length = 1 := by decide
    rw [e, Nat.one_mul]
    have : (k : Int).toNat ≤ 41 := by omega
    unfold Builtin.Str.tooLong
    simp only [decide_eq_false_iff_not, Nat.not_lt]
    exact Nat.le_trans this (by decide)
theorem noughts {n : Int} (h0 : 0 ≤ n) (h1 : n < 41) : PySem.intText? (("1" : Str) ++ Txt.mul "0" n) = some (10 ^ n.toNat) ∧ (("1" : Str) ++ Txt.mul "0" n).length ≤ 640 ∧ ("1" : Str).length + (Txt.mul "0" n).length ≤ sizeLine := by
  obtain ⟨k, rfl⟩ : ∃ k : Nat, n = (k : Int) := ⟨n.toNat, by omega⟩
  have := (noughts_ok ⟨k, by omega⟩).2
  exact this
theorem ten_pow {n : Int} (h0 : 0 ≤ n) (h1 : n < 41) : -(2 ^ 200) < (10 : Int) ^ n.toNat ∧ (10 : Int) ^ n.toNat < 2 ^ 200 := by
  have h : ∀ k : Fin 41, -(2 ^ 200) < (10 : Int) ^ k.val ∧ (10 : Int) ^ k.val < 2 ^ 200 := by decide +kernel
  exact h ⟨n.toNat, by omega⟩
def spAskedD : L2.Sp := fun vs H Q _ => ∃ (a p q : Addr) (ns ms : List Int), vs = [.ref a, .ref p, .ref q] ∧ DrawAt H a ∧ RowAt H a p ns ∧ RowAt H a q ms ∧ ∀ (n : Int) (H' : Hp), ExtD a H H' → Q (.int n) H'
def spSums2 (K : PySem.W.Frag) : L2.Sp := fun vs H Q _ => ∃ (p q : Addr) (ns ms : List Int) (n : Int), vs = [.ref p, .ref q, .int n] ∧ SqL K H p (ns.map V.int) ∧ SqL K H q (ms.map V.int) ∧ ns.Pairwise (· ≤ ·) ∧ ms.Pairwise (· ≤ ·) ∧ ns.length ≤ 1000 ∧ ∀ H', Same H H' → Q (.int (cntS ns ms n : Nat)) H'
def spPlacesOf (K : PySem.W.Frag) : L2.Sp := fun vs H Q _ => ∃ (p q : Addr) (ns ms : List Int) (n : Int), vs = [.ref p, .ref q, .int n] ∧ SqL K H p (ns.map V.int) ∧ SqL K H q (ms.map V.int) ∧ ns.Pairwise (· ≤ ·) ∧ ms.Pairwise (· ≤ ·) ∧ ∀ t, H t = none → Q (.ref t) (upd H t (.tup [.int (cntS ns ms n : Nat), .int (cntS ns ms (n + 1) : Nat)]))
def spWholes2 (K : PySem.W.Frag) : L2.Sp := fun vs H Q _ => ∃ (t : Addr) (zs : List Int), vs = [.ref t, .int (zs.length : Int)] ∧ H t = some (.tup (zs.map V.int)) ∧ zs.length ≤ 100 ∧ ∀ H', Same H H' → Q (.bl true) H'
abbrev dtup (zs : List Int) : PyData := .tuple (zs.map PyData.int)
theorem dp_tup {K : PySem.W.Frag} {H : Hp} {t : Addr} {zs : List Int} (h : H t = some (.tup (zs.map V.int))) : Dp K H (.ref t) (dtup zs) := .tup (.inl (.inl h)) (dpAll_ints zs)
theorem shaped_tup (zs : List Int) : SeqAt.shaped (dtup zs) = true := by
  unfold SeqAt.shaped
  rw [PyData.canLay0, lay_ints, PyData.depth, dep_ints]
  rfl
theorem eqv_tup (zs ys : List Int) : PyData.eqv (dtup zs) (dtup ys) = decide (zs = ys) := by rw [PyData.eqv, eqvAll_ints]
/-! papers -/
theorem shows_no {ms : List Int} (hs : ms.Pairwise (· ≤ ·)) {n y : Int} {k : Nat} (h : ms[k]? = some y) (hy : n ≤ y) : ¬ k + 1 = cntB ms n := fun e => by
  have := (cntB_lt (n := n) hs h).mpr (by omega)
  omega
theorem shows_at {ms : List Int} (hs : ms.Pairwise (· ≤ ·)) {n : Int} {k : Nat} (h1 : ∀ (j : Nat) (y : Int), j + 1 = k → ms[j]? = some y → y < n) (hk : k ≤ ms.length) : (k = ms.length → k = cntB ms n) ∧ ∀ y, ms[k]? = some y → (n ≤ y ↔ k = cntB ms n) := by
  have le := cntB_le ms n
  have ge : k ≤ cntB ms n := by
    cases k with
    | zero => exact Nat.zero_le _
    | succ j =>
      obtain ⟨y, hy⟩ : ∃ y, ms[j]? = some y := ⟨_, List.getElem?_eq_getElem (by omega)⟩
      exact (cntB_lt (n := n) hs hy).mp (h1 j y rfl hy)
  refine ⟨fun e => by omega, fun y hy => ?_⟩
  have := cntB_lt (n := n) hs hy
  constructor
  · intro h
    have : ¬ y < n := by omega
    omega
  · intro e
    have : ¬ k < cntB ms n := by omega
    omega
def spShows (K : PySem.W.Frag) : L2.Sp := fun vs H Q _ => ∃ (x : V) (q : Addr) (ms : List Int) (n : Int), vs = [x, .ref q, .int n] ∧ SqL K H q (ms.map V.int) ∧ ms.Pairwise (· ≤ ·) ∧ ((∃ v, x = .int v ∧ Q (.bl (decide (v = ((cntB ms n : Nat) : Int)))) H) ∨ (NoInt K H x ∧ Q (.bl false) H))
def spPaperOf (K : PySem.W.Frag) : L2.Sp := fun vs H Q _ => ∃ (p q : Addr) (ns ms : List Int) (n : Int), vs = [.ref p, .ref q, .int n] ∧ SqL K H p (ns.map V.int) ∧ SqL K H q (ms.map V.int) ∧ ms.Pairwise (· ≤ ·) ∧ ns.length ≤ 1000 ∧
  ∀ (r : Addr) (H' : Hp), Same H H' → H r = none → H' r = some (.lst ((belowL ns ms n).map V.int)) → Q (.ref r) H'
/-- what by_paper tells -/
def paperTold (b : Bool) (m : Int) : V := if b = true then .int m else .non
def spByPaper (K : PySem.W.Frag) : L2.Sp := fun vs H Q _ => ∃ (p q : Addr) (ns ms : List Int) (n : Int) (x : V), vs = [.ref p, .ref q, .int n, x] ∧ SqL K H p (ns.map V.int) ∧ SqL K H q (ms.map V.int) ∧ ms.Pairwise (· ≤ ·) ∧ ns.length ≤ 1000 ∧
  ((∃ (t : Addr) (xs : List V), x = .ref t ∧ SqL K H t xs ∧ (∀ y ∈ xs, Kn K H y) ∧ ∀ (b : Bool) (H' : Hp), (b = true ↔ xs = (belowL ns ms n).map V.int) → Same H H' → Q (paperTold b ((cntS ns ms n : Nat) : Int)) H') ∨
  (∃ T, T ∈ ["int", "bool", "str", "NoneType", "tuple", "dict"] ∧ TyX K H x (.type T) ∧ Q .non H))
def spRight45 (K : PySem.W.Frag) : L2.Sp := fun vs H Q _ => ∃ (p q : Addr) (ns ms : List Int) (n : Int), vs = [.ref p, .ref q, .int n] ∧ SqL K H p (ns.map V.int) ∧ SqL K H q (ms.map V.int) ∧ ns.Pairwise (· ≤ ·) ∧ ms.Pairwise (· ≤ ·) ∧ ns.length ≤ 300 ∧ ms.length ≤ 300 ∧ ∀ H', Same H H' → Q (.bl true) H'
end Sp

/-! repr of things, dicts of whole numbers and empty dicts within lists too: k01, k46. -/
namespace Rq
open PySem PySem.Spec PyProof.Rows L2
abbrev entQ (e : Int × V) : L2.Key × V := (Sum.inl e.1, e.2)
/-- whole numbers and truths -/
def Num (v : V) : Prop := (∃ i, v = .int i) ∨ ∃ b, v = .bl b
def numD : V → PyData
  | .int i => .int i
  | .bl b => .bool b
  | _ => .none
abbrev dkv (es : List (Int × V)) : PyData := .dict (es.map fun e => (PyData.int e.1, numD e.2))
/-- an item of a list -/
inductive El (K : PySem.W.Frag) (H : Hp) : V → PyData → Prop
  | dat {v : V} {d : PyData} : Dp K H v d → d.hasDict = false → El K H v d
  | emp {a : Addr} : H a = some (.dK []) → El K H (.ref a) (.dict [])
inductive Els (K : PySem.W.Frag) (H : Hp) : List V → List PyData → Prop
  | nil : Els K H [] []
  | cons {v : V} {d : PyData} {vs : List V} {ds : List PyData} : El K H v d → Els K H vs ds → Els K H (v :: vs) (d :: ds)
/-- fit to be shown -/
structure Fit (d : PyData) : Prop where
  able : d.showable = true
  leaf : d.leavesShort 152 = true
  small : d.weight ≤ 100000
  flat : d.depth ≤ 50
theorem Fit.len {d : PyData} (f : Fit d) : d.shown.length ≤ sizeLine := by
  have h := PyData.shown_le 152 (by decide) d f.leaf
  have h2 := Nat.mul_le_mul_left (152 + 2) f.small
  rw [sizeLine_eq]
  omega
/-- a thing and what is shown of it -/
inductive Dt (K : PySem.W.Frag) (H : Hp) : V → PyData → Prop
  | non : Dt K H .non .none
  | bl (b : Bool) : Dt K H (.bl b) (.bool b)
  | int {i : Int} : i.natAbs.log2 < 1920 → Dt K H (.int i) (.int i)
  | str {z : Str} : (reprText z).length ≤ sizeLine → Dt K H (.str z) (.str z)
  | dat {a : Addr} {d : PyData} : Dp K H (.ref a) d → d.hasDict = false → Fit d → Dt K H (.ref a) d
  | row {a : Addr} {xs : List V} {ds : List PyData} : H a = some (.lst xs) → Els K H xs ds → Fit (.list ds) → Dt K H (.ref a) (.list ds)
  | dct {a : Addr} {es : List (Int × V)} : H a = some (.dK (es.map entQ)) → (∀ e ∈ es, Num e.2) → Fit (dkv es) → Dt K H (.ref a) (dkv es)
section
variable {X : Cx} {pins : List (Addr × Obj)} {σ : L2.St} {H : Hp} {s : Shared}
theorem reads_emp (I : Inv X pins σ H s) {a : Addr} (h : H a = some (.dK [])) : ∃ as, Reads s.heap (.ref a) (.dict []) as ∧ sysModules ∉ as := by
  obtain ⟨_, hs, vs, kv, hdo⟩ := I.hok a _ h
  obtain ⟨es, ep, ⟨o, ho, hx, hdat⟩, hes, _⟩ := Heap.DictOf.raw hdo
  have e0 : es = #[] := by
    have : vs.length = 0 := by rw [← Paired.length kv]; rfl
    exact Array.eq_empty_of_size_eq_zero (by omega)
  subst e0
  refine ⟨a :: [] ++ [], .dict ho hx.1 hdat .nil .nil, fun hm => ?_⟩
  have : sysModules = a := by simpa using hm
  subst this
  simp at hs
theorem num_reads {h : Heap} {v : V} {u : Value} (n : Num v) (r : RelV v u) : Reads h u (numD v) [] := by
  rcases n with ⟨i, rfl⟩ | ⟨b, rfl⟩
  · obtain ⟨t, rfl⟩ := r
    exact .int _ _
  · cases r
    exact .bool _
theorem reads_kv (I : Inv X pins σ H s) {a : Addr} {es : List (Int × V)} (h : H a = some (.dK (es.map entQ))) (ln : ∀ e ∈ es, Num e.2) : ∃ as, Reads s.heap (.ref a) (dkv es) as ∧ sysModules ∉ as := by
  obtain ⟨_, hs, vs, kv, hdo⟩ := I.hok a _ h
  obtain ⟨en, ep, ⟨o, ho, hx, hdat⟩, hen, hat⟩ := Heap.DictOf.raw hdo
  have lk : (es.map entQ).length = vs.length := Paired.length kv
  rw [List.length_map] at lk
  have item : ∀ (j : Nat) (e : Int × V) (d : DictEntry), es[j]? = some e → en.toList[j]? = some d → (∃ t, d.key = .int e.1 t) ∧ RelV e.2 d.val := by
    intro j e d he hd
    rw [Array.getElem?_toList] at hd
    have hj := (Array.getElem?_eq_some_iff.mp hd).1
    obtain ⟨y, hy, hy1, hy2⟩ := LiI.paired_get kv (i := j) (x := entQ e) (by rw [List.getElem?_map, he]; rfl)
    obtain ⟨a1, a2⟩ := hat j hj y.1 y.2 hy
    have ed : en[j] = d := by
      rw [Array.getElem?_eq_getElem hj] at hd
      exact Option.some.inj hd
    rw [ed] at a1 a2
    rw [← hy1] at a1
    refine ⟨?_, by rw [a2]; exact hy2⟩
    rcases keyIs_shape (show keyIs (Sum.inl e.1) d.key = true from a1) with ⟨i, t, ek, ev⟩ | ⟨z, t, ek, ev⟩
    · cases ek
      exact ⟨t, ev⟩
    · cases ek
  have all : ∀ (es : List (Int × V)) (en : List DictEntry), (∀ e ∈ es, Num e.2) → en.length = es.length → (∀ (j : Nat) (e : Int × V) (d : DictEntry), es[j]? = some e → en[j]? = some d → (∃ t, d.key = .int e.1 t) ∧ RelV e.2 d.val) →
      ReadsAll s.heap (en.map (·.key)) ((es.map fun e => (PyData.int e.1, numD e.2)).map (·.1)) [] ∧ ReadsAll s.heap (en.map (·.val)) ((es.map fun e => (PyData.int e.1, numD e.2)).map (·.2)) [] := by
    intro es
    induction es with
    | nil =>
      intro en _ hl _
      have : en = [] := List.length_eq_zero_iff.mp hl
      subst this
      exact ⟨.nil, .nil⟩
    | cons e es ih =>
      intro en ln hl g
      cases en with
      | nil => cases hl
      | cons d en =>
        obtain ⟨⟨t, hk⟩, hv⟩ := g 0 e d rfl rfl
        obtain ⟨i1, i2⟩ := ih en (fun e he => ln e (List.mem_cons_of_mem _ he)) (Nat.succ.inj hl) fun j e d h1 h2 => g (j + 1) e d h1 h2
        refine ⟨?_, ?_⟩
        · rw [List.map_cons, List.map_cons, List.map_cons, hk]
          exact .cons (as := []) (.int _ _) i1
        · rw [List.map_cons, List.map_cons, List.map_cons]
          exact .cons (as := []) (num_reads (ln e List.mem_cons_self) hv) i2
  obtain ⟨r1, r2⟩ := all es en.toList ln (by rw [Array.length_toList, hen, lk]) item
  refine ⟨a :: [] ++ [], .dict ho hx.1 hdat r1 r2, fun hm => ?_⟩
  have : sysModules = a := by simpa using hm
  subst this
  simp at hs
theorem el_reads (I : Inv X pins σ H s) {v : V} {d : PyData} {u : Value} (e : El X.K H v d) (r : RelV v u) : ∃ as, Reads s.heap u d as ∧ (d.hasDict = true → sysModules ∉ as) := by
  cases e with
  | dat h n =>
    obtain ⟨as, R⟩ := Dp.reads I d v u h r
    exact ⟨as, R, PyData.noDict_hsm n⟩
  | emp h =>
    cases (show u = Value.ref _ from r)
    obtain ⟨as, R, n⟩ := reads_emp I h
    exact ⟨as, R, fun _ => n⟩
theorem els_reads (I : Inv X pins σ H s) {vs : List V} {ds : List PyData} (e : Els X.K H vs ds) : ∀ {us : List Value}, Vals vs us → PyData.showableAll ds = true → (∀ t ∈ PyData.shownAll ds, t.length ≤ sizeLine) →
    (∃ as, ReadsAll s.heap us ds as) ∧ ∃ bs, ReadAtMost s.heap (PyData.depthAll ds) bs ∧ ReprAllK X.prog X.w bs s.heap (PyData.depthAll ds) us (PyData.shownAll ds) := by
  induction e with
  | nil =>
    intro us r _ _
    cases r
    exact ⟨⟨[], .nil⟩, [], (fun _ h => nomatch h), by simp only [PyData.shownAll]; exact .nil⟩
  | cons e _ ih =>
    rename_i v d vs ds _
    intro us r hs hz
    cases r with
    | cons r rr =>
      have hs' : d.showable = true ∧ PyData.showableAll ds = true := by simpa [PyData.showableAll] using hs
      obtain ⟨as, R, sm⟩ := el_reads I e r
      obtain ⟨⟨as2, R2⟩, b2, hb2, k2⟩ := ih rr hs'.2 fun t ht => hz t (by simp only [PyData.shownAll]; exact List.mem_cons_of_mem _ ht)
      obtain ⟨b1, hb1, k1⟩ := ReprK.of_reads (prog := X.prog) (w := X.w) R hs'.1 sm (hz _ (by simp only [PyData.shownAll]; exact List.mem_cons_self))
      refine ⟨⟨_, .cons R R2⟩, b1 ++ b2, fun b hm => ?_, ?_⟩
      · simp only [PyData.depthAll]
        rcases List.mem_append.mp hm with h | h
        · obtain ⟨d', as', r', hd'⟩ := hb1 b h
          exact ⟨d', as', r', Nat.le_trans hd' (Nat.le_max_left _ _)⟩
        · obtain ⟨d', as', r', hd'⟩ := hb2 b h
          exact ⟨d', as', r', Nat.le_trans hd' (Nat.le_max_right _ _)⟩
      · simp only [PyData.depthAll, PyData.shownAll]
        exact .cons ((k1.more fun b hb => List.mem_append_left _ hb).level_le (Nat.le_max_left _ _)) (k2.more_le (fun b hb => List.mem_append_right _ hb) (Nat.le_max_right _ _))
/-- repr of such a thing -/
def rReprQ (K : PySem.W.Frag) : List V → Hp → VK → Prop := fun xs H Q => ∃ (x : V) (d : PyData), xs = [x] ∧ Dt K H x d ∧ Q (.str d.shown) H
theorem call_reprQ {k : Nat} (hu : X.A.guards = some []) (hr : Room k X.A) : CallR X (.builtin "repr") (rReprQ X.K) := by
  intro pins z σ H xs us Q I r h
  obtain ⟨x, d, rfl, hd, q⟩ := h
  have := hr.units
  obtain ⟨u, rfl, ru⟩ := vals1 r
  cases hd with
  | non =>
    cases ru
    exact PySem.P.repr_of_none ⟨.str _, H, I.tok _, ⟨_, rfl⟩, by simpa only [PyData.shown] using q⟩
  | bl b =>
    cases ru
    exact PySem.P.repr_of_bool ⟨.str _, H, I.tok _, ⟨_, rfl⟩, by simpa only [PyData.shown] using q⟩
  | int hi =>
    obtain ⟨t, rfl⟩ := ru
    exact PySem.P.repr_of_int hi ⟨.str _, H, I.tok _, ⟨_, rfl⟩, by simpa only [PyData.shown] using q⟩
  | str hz =>
    obtain ⟨t, rfl⟩ := ru
    exact PySem.P.repr_of_str ⟨.str _, H, I.tok _, ⟨_, rfl⟩, by simpa only [PyData.shown] using q⟩ hz
  | dat h n f =>
    obtain ⟨as, R⟩ := Dp.reads I d _ _ h ru
    cases (show u = Value.ref _ from ru)
    have := f.flat
    exact repr_of_reads' R f.able (PyData.noDict_hsm n) hu (by omega) (fun _ _ e => e) (fun h' u tk hk => ⟨.str d.shown, H, I.kept (t' := tk) hk, ⟨u, rfl⟩, q⟩) f.len
  | dct h ln f =>
    cases (show u = Value.ref _ from ru)
    obtain ⟨as, R, n⟩ := reads_kv I h ln
    have := f.flat
    exact repr_of_reads' R f.able (fun _ => n) hu (by omega) (fun _ _ e => e) (fun h' u tk hk => ⟨.str _, H, I.kept (t' := tk) hk, ⟨u, rfl⟩, q⟩) f.len
  | row h e f =>
    rename_i a ys ds
    cases (show u = Value.ref _ from ru)
    obtain ⟨its, rv, hl, _⟩ := I.list (SqL.of h)
    obtain ⟨o, ho, hc, n, hdt⟩ := hl.isList
    have hz' : (listText (PyData.shownAll ds)).length ≤ sizeLine := by simpa only [PyData.shown] using f.len
    obtain ⟨⟨as, R⟩, bs, hb, hk⟩ := els_reads I e rv (by simpa [PyData.showable] using f.able) fun t ht => Nat.le_trans (listText_mem_le ht) hz'
    have rr : Reads z.heap (.ref a) (.list ds) _ := .list ho hc hdt (by simpa using R)
    have hna : a ∉ bs := not_mem_of_deeper rr (by simp only [PyData.depth]; omega) hb
    have fl := f.flat
    simp only [PyData.depth] at fl
    refine call_repr_slot (T := "list") (idr := "list.__repr__") (by omega) ⟨o, ho, hc⟩ F.slot_list_repr.toG ?_
    have hg : (X.A.in1).guards = some [] := hu
    have fin : ∀ h' u tk, (∀ b o, z.heap.get? b = some o → h'.get? b = some o) → EP X pins σ Q (.str (listText (PyData.shownAll ds)) u) { z with heap := h', toks := tk } := fun h' u tk hk => ⟨.str _, H, I.kept (t' := tk) hk, ⟨u, rfl⟩, by simpa only [PyData.shown] using q⟩
    cases its with
    | nil =>
      cases R
      simp only [PyData.shownAll, listText_nil] at fin
      exact call_list_repr_empty ⟨o, ho, hc⟩ ho hdt ⟨_, _, rfl, fin z.heap _ _ fun _ _ e => e⟩
    | cons x l =>
      exact call_list_reprK ho hc hdt hna (by simpa using hk.length_eq) (fun i y e => hk.item i y (by simpa using e)) hg (fun b _ => Clear.nil b) (by show X.A.units + 1 + (PyData.depthAll ds + 1) < cLine; omega) (fun _ _ e => e) (fun h' u tk hk => ⟨_, _, rfl, fin h' u tk hk⟩) hz'
end
end Rq

/-! truths among whole numbers, a list that may be empty, dict(enumerate(xs)): k01. -/
namespace Rq
open PySem PySem.Spec PyProof.Rows L2
def numI : V → Int
  | .int i => i
  | .bl b => if b = true then 1 else 0
  | _ => 0
section
variable {X : Cx}
theorem op_addQ : OpR X (binaryOp .Add) (fun x y H Q => ∃ j, Num x ∧ y = .int j ∧ Q (.int (numI x + j)) H) := by
  intro pins s σ H x y v u Q I rx ry h
  obtain ⟨j, n, rfl, q⟩ := h
  rcases n with ⟨i, rfl⟩ | ⟨b, rfl⟩
  · exact op_add pins s σ H _ _ v u Q I rx ry ⟨i, j, rfl, rfl, q⟩
  · cases rx
    obtain ⟨t, rfl⟩ := ry
    exact PySem.IntBool.add_bool_int ⟨.int _, H, I.tok _, ⟨_, rfl⟩, q⟩
theorem op_subQ : OpR X (binaryOp .Sub) (fun x y H Q => ∃ j, Num x ∧ y = .int j ∧ Q (.int (numI x - j)) H) := by
  intro pins s σ H x y v u Q I rx ry h
  obtain ⟨j, n, rfl, q⟩ := h
  rcases n with ⟨i, rfl⟩ | ⟨b, rfl⟩
  · exact op_sub pins s σ H _ _ v u Q I rx ry ⟨i, j, rfl, rfl, q⟩
  · cases rx
    obtain ⟨t, rfl⟩ := ry
    exact PySem.IntBool.sub_bool_int ⟨.int _, H, I.tok _, ⟨_, rfl⟩, q⟩
/-- xs == [] -/
def rEqNil (K : PySem.W.Frag) : R2 := fun x y H Q => ∃ a b xs, x = .ref a ∧ y = .ref b ∧ SqL K H a xs ∧ SqL K H b [] ∧ Q (.bl xs.isEmpty) H
def rNeNil (K : PySem.W.Frag) : R2 := fun x y H Q => ∃ a b xs, x = .ref a ∧ y = .ref b ∧ SqL K H a xs ∧ SqL K H b [] ∧ Q (.bl (!xs.isEmpty)) H
theorem op_eqNil (hu : X.A.units + 64 < cLine) : OpR X (compareOp .Eq) (rEqNil X.K) := by
  intro pins s σ H x y v u Q I rx ry h
  obtain ⟨a, b, xs, rfl, rfl, ha, hb, q⟩ := h
  cases (show v = Value.ref a from rx)
  cases (show u = Value.ref b from ry)
  obtain ⟨us, r1, p1, _⟩ := I.list ha
  obtain ⟨ws, r2, p2, _⟩ := I.list hb
  cases r2
  cases xs with
  | nil =>
    cases r1
    exact SeqAt.eq_listAt (e := fun _ => true) p1.isList p2.isList rfl (by omega) (fun j h1 h2 => absurd h1 (Nat.not_lt_zero j)) ⟨.bl true, H, I, rfl, q⟩
  | cons x xs =>
    cases r1
    exact SeqAt.eq_list_lengthsAt p1.isList p2.isList (by simp) (by omega) ⟨.bl false, H, I, rfl, q⟩
theorem op_neNil (hu : X.A.units + 64 < cLine) : OpR X (compareOp .NotEq) (rNeNil X.K) := by
  intro pins s σ H x y v u Q I rx ry h
  obtain ⟨a, b, xs, rfl, rfl, ha, hb, q⟩ := h
  cases (show v = Value.ref a from rx)
  cases (show u = Value.ref b from ry)
  obtain ⟨us, r1, p1, _⟩ := I.list ha
  obtain ⟨ws, r2, p2, _⟩ := I.list hb
  cases r2
  cases xs with
  | nil =>
    cases r1
    exact SeqAt.RcNeAt.lists (e := fun _ => true) p1.isList p2.isList rfl (by omega) (fun j h1 h2 => absurd h1 (Nat.not_lt_zero j)) _ _ _ _ ⟨.bl false, H, I, rfl, q⟩
  | cons x xs =>
    cases r1
    exact SeqAt.RcNeAt.lists_lengths p1.isList p2.isList (by simp) (by omega) _ _ _ _ ⟨.bl true, H, I, rfl, q⟩
end
/-- the items of enumerate -/
def enK : Nat → List V → List (Int × V)
  | _, [] => []
  | k, x :: xs => ((k : Int), x) :: enK (k + 1) xs
theorem enK_mem : ∀ {xs : List V} {k : Nat} {e : Int × V}, e ∈ enK k xs → e.2 ∈ xs ∧ (k : Int) ≤ e.1 ∧ e.1 < (k : Int) + xs.length
  | [], _, _, h => nomatch h
  | x :: xs, k, e, h => by
    rcases List.mem_cons.mp h with rfl | h
    · refine ⟨List.mem_cons_self, Int.le_refl _, ?_⟩
      rw [List.length_cons]
      show (k : Int) < _
      omega
    · obtain ⟨h1, h2, h3⟩ := enK_mem h
      rw [List.length_cons]
      exact ⟨List.mem_cons_of_mem _ h1, by omega, by omega⟩
theorem enK_len : ∀ (xs : List V) (k : Nat), (enK k xs).length = xs.length
  | [], _ => rfl
  | x :: xs, k => by rw [enK, List.length_cons, List.length_cons, enK_len xs]
theorem merge_en : ∀ (xs : List V) (k : Nat) (acc : List (L2.Key × V)), (∀ e ∈ acc, ∃ j : Int, e.1 = Sum.inl j ∧ j < (k : Int)) → mergeK acc ((enK k xs).map entQ) = acc ++ (enK k xs).map entQ
  | [], _, acc, _ => by
    show acc = acc ++ []
    rw [List.append_nil]
  | x :: xs, k, acc, h => by
    have no : valV acc (Sum.inl (k : Int)) = none := by
      unfold valV
      rw [Option.map_eq_none_iff, List.find?_eq_none]
      intro e he
      obtain ⟨j, h1, h2⟩ := h e he
      rw [h1]
      simp
      omega
    show mergeK (putK acc (Sum.inl (k : Int)) x) ((enK (k + 1) xs).map entQ) = _
    rw [putK_new x no, merge_en xs (k + 1) _ fun e he => ?_]
    · rw [List.append_assoc]
      rfl
    · rcases List.mem_append.mp he with he | he
      · obtain ⟨j, h1, h2⟩ := h e he
        exact ⟨j, h1, by omega⟩
      · rw [List.mem_singleton.mp he]
        exact ⟨k, rfl, by omega⟩
/-- the same of values -/
def enV : Nat → List Value → List (L2.Key × Value)
  | _, [] => []
  | k, x :: xs => (Sum.inl (k : Int), x) :: enV (k + 1) xs
theorem enV_len : ∀ (xs : List Value) (k : Nat), (enV k xs).length = xs.length
  | [], _ => rfl
  | x :: xs, k => by rw [enV, List.length_cons, List.length_cons, enV_len xs]
theorem enV_at : ∀ {xs : List Value} {k i : Nat} {v : Value}, xs[i]? = some v → (enV k xs)[i]? = some (Sum.inl ((k + i : Nat) : Int), v)
  | [], _, _, _, h => by simp at h
  | x :: xs, k, 0, v, h => by cases h; rfl
  | x :: xs, k, i + 1, v, h => by
    have := enV_at (xs := xs) (k := k + 1) (i := i) h
    rw [show k + (i + 1) = k + 1 + i by omega]
    exact this
theorem en_kv : ∀ {xs : List V} {us : List Value} (k : Nat), Vals xs us → KV ((enK k xs).map entQ) (enV k us)
  | _, _, k, .nil => .nil
  | _, _, k, .cons r rr => .cons ⟨rfl, r⟩ (en_kv (k + 1) rr)
def tEnumD (K : PySem.W.Frag) (te : TE) : TE := fun σ H Q => te σ H fun x H1 => ∃ (a : Addr) (xs : List V), x = .ref a ∧ SqL K H1 a xs ∧ ∀ p, H1 p = none → Q (.ref p) (upd H1 p (.dK ((enK 0 xs).map entQ)))
section
variable {X : Cx} {e : Expr} {te : TE} {p p2 pos pos2 : Pos}
theorem pe_dictEnum (hm : X.mg "dict" = none) (hm2 : X.mg "enumerate" = none) (he : PE X e te) (hc : X.calm = true := by rfl) (hg : Gl X "dict" := by rfl) (hg2 : Gl X "enumerate" := by rfl)
    (hs2 : starEach [e] X.env = [(false, eval e X.env)] := by rfl)
    (hs : starEach [.Call (.Name "enumerate" p2) [e] [] pos2] X.env = (false, eval (.Call (.Name "enumerate" p2) [e] [] pos2) X.env) :: starEach [] X.env := by rfl) :
    PE X (.Call (.Name "dict" p) [.Call (.Name "enumerate" p2) [e] [] pos2] [] pos) (tEnumD X.K te) := by
  refine ⟨fun pins s σ H Q I hq => ?_⟩
  refine wpAny_Call_Name_kw (ld_blt I hg hm (by decide +kernel : bootBuiltins "dict" = some (.type "dict")) ?_)
  refine PyProof.Rows.callWith_type1 ?_ hs rfl
  rw [hs]
  show wpAny _ _ (spliced ((false, eval (.Call (.Name "enumerate" p2) [e] [] pos2) X.env) :: backTo pos (starEach [] X.env))) _ _ s
  refine Calls.spliced_cons ?_
  refine Call_ (ld_blt I hg2 hm2 boot_enumerate (PyProof.Rows.callWith_type1 ?_ hs2 rfl))
  rw [hs2]
  show wpAny _ _ (spliced ((false, eval e X.env) :: backTo pos2 (starEach [] X.env))) _ _ s
  refine Calls.spliced_cons (thn (he.run pins s σ H _ I hq) fun v s1 ⟨x, H1, I1, r1, a, xs, ex, hq1, q⟩ => ?_)
  subst ex
  obtain rfl : v = Value.ref a := r1
  refine Calls.spliced_nil ?_
  obtain ⟨its, rv, pl, hz⟩ := I1.list hq1
  refine call_enumerate_list pl.isList fun h' he' hit hsz hk => ?_
  refine Calls.spliced_nil ?_
  have la : a < s1.heap.objs.size := let ⟨_, z, _⟩ := pl.isList; Heap.lt_size z
  have hlen : its.length = xs.length := rv.length.symm
  refine call_dict_pairs (s := { s1 with heap := h' }) (knd := mixKind X.prog X.w) (kvs := enV 0 its) (PairArg.enumerate _ _ a (Nat.succ_ne_self _) (Nat.ne_of_lt (Nat.lt_succ_of_lt la)) (Nat.ne_of_lt la) its.toArray) (I1.ok.hd hc) ⟨⟨_, he'⟩, hit, pl.isList.at fun o z => hk _ o z⟩ ⟨by rw [enV_len, List.size_toArray], fun i key v h => ?_⟩ (by rw [List.size_toArray, hlen]; exact hz) fun h2 tk hd2 k2 => ?_
  · obtain ⟨⟨t, rfl⟩, hv⟩ := h
    rw [List.getElem?_toArray] at hv
    refine ⟨_, enV_at hv, ?_⟩
    rw [Nat.zero_add]
    exact kV_is (k := Sum.inl ((i : Nat) : Int)) ⟨t, rfl⟩
  · dsimp only at k2 ⊢
    have keep : ∀ b o, s1.heap.get? b = some o → h2.get? b = some o := fun b o z => k2 b o (fun hm => by
      simp only [List.mem_cons, List.not_mem_nil, or_false] at hm
      have hb := Heap.lt_size z
      rcases hm with h | h
      · subst h
        exact absurd hb (Nat.not_lt.mpr (Nat.le_succ _))
      · subst h
        exact absurd hb (Nat.lt_irrefl _)) (hk b o z)
    have big : s1.heap.objs.size ≤ h'.objs.size := by rw [hsz]; omega
    have hsys : (h'.objs.size == sysModules) = false := beq_eq_false_iff_ne.mpr (Nat.ne_of_gt (Nat.lt_of_lt_of_le I1.big big))
    have em : mergeK [] ((enK 0 xs).map entQ) = (enK 0 xs).map entQ := merge_en xs 0 [] fun e he => nomatch he
    refine ⟨.ref h'.objs.size, upd H1 h'.objs.size (.dK ((enK 0 xs).map entQ)), I1.laid (t' := tk) keep big (show ObjOk X.prog X.w _ _ _ (.dK _) from ⟨by rw [List.length_map, enK_len]; exact hz, hsys, merged [] (enV 0 its), ?_, hd2⟩), rfl, q _ (I1.hok.fresh big)⟩
    rw [← em]
    exact KV.merge (en_kv 0 rv) .nil
end
end Rq

/-! rows and things of all kinds, as k01 draws them. -/
namespace Rq
open PySem L2 Sp
theorem ni_bl {K : PySem.W.Frag} {H : Hp} {b : Bool} : NoInt K H (.bl b) := ⟨"bool", by decide, .base (.bl b)⟩
theorem ni_str {K : PySem.W.Frag} {H : Hp} {z : Str} : NoInt K H (.str z) := ⟨"str", by decide, .base (.str z)⟩
theorem ni_non {K : PySem.W.Frag} {H : Hp} : NoInt K H .non := ⟨"NoneType", by decide, .base .non⟩
theorem ni_lst {K : PySem.W.Frag} {H : Hp} {p : Addr} {xs : List V} (h : H p = some (.lst xs)) : NoInt K H (.ref p) := ⟨"list", by decide, .base (.lst h)⟩
theorem ni_tup {K : PySem.W.Frag} {H : Hp} {p : Addr} {xs : List V} (h : H p = some (.tup xs)) : NoInt K H (.ref p) := ⟨"tuple", by decide, .base (.tup h)⟩
theorem ni_dct {K : PySem.W.Frag} {H : Hp} {p : Addr} {kvs : List (L2.Key × V)} (h : H p = some (.dK kvs)) : NoInt K H (.ref p) := ⟨"dict", by decide, .base (.dK h)⟩
/-- within -c .. c -/
def Bnd (c : Int) (v : V) : Prop := -c ≤ numI v ∧ numI v ≤ c
theorem log_bnd {c : Int} {v : V} (h : Bnd c v) (hc : c ≤ 1000000000000000000000000000000000000000000) : (numI v).natAbs.log2 < 140 := by
  obtain ⟨h1, h2⟩ := h
  by_cases h0 : (numI v).natAbs = 0
  · rw [h0]; decide
  · exact (Nat.log2_lt h0).mpr (by omega)
/-- what is needed of an item's data -/
structure Lite (d : PyData) : Prop where
  able : d.showable = true
  leaf : d.leavesShort 152 = true
  small : d.weight ≤ 140
  flat : d.depth ≤ 3
theorem lite_int {i : Int} (h : i.natAbs.log2 < 140) : Lite (.int i) := by
  refine ⟨?_, ?_, ?_, by rw [PyData.depth]; omega⟩
  · rw [PyData.showable]
    exact decide_eq_true (by omega)
  · rw [PyData.leavesShort]
    refine decide_eq_true ?_
    show (Str.ofString (toString i)).length ≤ 152
    rw [PySem.ofString_length]
    have := int_text_length_le (k := 140) (by decide) h
    omega
  · rw [PyData.weight]
    split <;> omega
theorem lite_num {v : V} (n : Num v) (h : (numI v).natAbs.log2 < 140) : Lite (numD v) := by
  rcases n with ⟨i, rfl⟩ | ⟨b, rfl⟩
  · exact lite_int h
  · cases b
    · exact ⟨rfl, rfl, by decide, by decide⟩
    · exact ⟨rfl, rfl, by decide, by decide⟩
theorem num_dp {K : PySem.W.Frag} {H : Hp} {v : V} (n : Num v) : Dp K H v (numD v) := by
  rcases n with ⟨i, rfl⟩ | ⟨b, rfl⟩
  · exact .int i
  · exact .bl b
theorem num_kn {K : PySem.W.Frag} {H : Hp} {v : V} (n : Num v) : Kn K H v := by
  rcases n with ⟨i, rfl⟩ | ⟨b, rfl⟩
  · exact .inl ⟨i, rfl⟩
  · exact .inr ni_bl
theorem num_hd {v : V} (n : Num v) : (numD v).hasDict = false := by
  rcases n with ⟨i, rfl⟩ | ⟨b, rfl⟩ <;> rfl
/-- an item: what it is, whatever becomes of the hand -/
def Od (K : PySem.W.Frag) (a : Addr) (H : Hp) (v : V) : Prop := ∃ d, Lite d ∧ ∀ H', Ext a H H' → El K H' v d ∧ Kn K H' v
theorem Od.ext {K : PySem.W.Frag} {a : Addr} {H H1 : Hp} {v : V} (o : Od K a H v) (e : Ext a H H1) : Od K a H1 v := by
  obtain ⟨d, l, h⟩ := o
  exact ⟨d, l, fun H' e' => h H' (e.trans e')⟩
theorem od_num {K : PySem.W.Frag} {a : Addr} {H : Hp} {v : V} (n : Num v) {c : Int} (b : Bnd c v) (hc : c ≤ 1000000000000000000000000000000000000000000) : Od K a H v :=
  ⟨numD v, lite_num n (log_bnd b hc), fun H' _ => ⟨.dat (num_dp n) (num_hd n), num_kn n⟩⟩
/-- what is known of a thing that is_row is asked of -/
inductive Inf (K : PySem.W.Frag) (H : Hp) : V → Prop
  | lst {p : Addr} {xs : List V} : H p = some (.lst xs) → (∀ y ∈ xs, Kn K H y) → Inf K H (.ref p)
  | tup {p : Addr} {xs : List V} : H p = some (.tup xs) → Inf K H (.ref p)
  | dct {p : Addr} {kvs : List (L2.Key × V)} : H p = some (.dK kvs) → Inf K H (.ref p)
  | int (i : Int) : Inf K H (.int i)
  | bl (b : Bool) : Inf K H (.bl b)
  | str (z : Str) : Inf K H (.str z)
  | non : Inf K H .non
theorem Inf.two {K : PySem.W.Frag} {H : Hp} {v : V} (h : Inf K H v) : (∃ (p : Addr) (xs : List V), v = .ref p ∧ H p = some (.lst xs) ∧ ∀ y ∈ xs, Kn K H y) ∨ ∃ T, T ∈ ["int", "bool", "str", "NoneType", "tuple", "dict"] ∧ TyX K H v (.type T) ∧ ∀ (p : Addr) (xs : List V), v = .ref p → H p ≠ some (.lst xs) := by
  cases h with
  | lst e k => exact .inl ⟨_, _, rfl, e, k⟩
  | tup e => exact .inr ⟨"tuple", by decide, .base (.tup e), fun p xs h1 h2 => by cases h1; rw [e] at h2; cases h2⟩
  | dct e => exact .inr ⟨"dict", by decide, .base (.dK e), fun p xs h1 h2 => by cases h1; rw [e] at h2; cases h2⟩
  | int i => exact .inr ⟨"int", by decide, .base (.int i), fun p xs h1 => by cases h1⟩
  | bl b => exact .inr ⟨"bool", by decide, .base (.bl b), fun p xs h1 => by cases h1⟩
  | str z => exact .inr ⟨"str", by decide, .base (.str z), fun p xs h1 => by cases h1⟩
  | non => exact .inr ⟨"NoneType", by decide, .base .non, fun p xs h1 => by cases h1⟩
/-- a thing, whatever becomes of the hand -/
def Th (K : PySem.W.Frag) (a : Addr) (H : Hp) (v : V) : Prop := ∃ d, ∀ H', Ext a H H' → Dt K H' v d ∧ Inf K H' v
theorem Th.ext {K : PySem.W.Frag} {a : Addr} {H H1 : Hp} {v : V} (o : Th K a H v) (e : Ext a H H1) : Th K a H1 v := by
  obtain ⟨d, h⟩ := o
  exact ⟨d, fun H' e' => h H' (e.trans e')⟩
/-- a list of whole numbers and truths -/
structure Ns (a : Addr) (c : Int) (H : Hp) (p : Addr) (xs : List V) : Prop where
  at_ : H p = some (.lst xs)
  ne : p ≠ a
  num : ∀ x ∈ xs, Num x ∧ Bnd c x
theorem Ns.ext {a p : Addr} {c : Int} {H H1 : Hp} {xs : List V} (n : Ns a c H p xs) (e : Ext a H H1) : Ns a c H1 p xs := ⟨e.keep _ _ n.at_ n.ne, n.ne, n.num⟩
section
variable {K : PySem.W.Frag} {a p : Addr} {H : Hp} {xs : List V} {c : Int}
/-- the data of items -/
theorem ods : ∀ {xs : List V}, (∀ x ∈ xs, Od K a H x) → ∃ ds : List PyData, (∀ H', Ext a H H' → Els K H' xs ds ∧ ∀ y ∈ xs, Kn K H' y) ∧ PyData.showableAll ds = true ∧ PyData.leavesShortAll 152 ds = true ∧ PyData.weightAll ds ≤ 141 * xs.length ∧ PyData.depthAll ds ≤ 3
  | [], _ => ⟨[], fun _ _ => ⟨.nil, fun _ h => nomatch h⟩, rfl, rfl, Nat.le_refl _, by decide⟩
  | x :: xs, h => by
    obtain ⟨d, l, g⟩ := h x List.mem_cons_self
    obtain ⟨ds, g2, h1, h2, h3, h4⟩ := ods (xs := xs) fun y hy => h y (List.mem_cons_of_mem _ hy)
    refine ⟨d :: ds, fun H' e => ⟨.cons (g H' e).1 (g2 H' e).1, fun y hy => ?_⟩, ?_, ?_, ?_, ?_⟩
    · rcases List.mem_cons.mp hy with rfl | hy
      · exact (g H' e).2
      · exact (g2 H' e).2 y hy
    · rw [PyData.showableAll, l.able, h1]
      rfl
    · rw [PyData.leavesShortAll, l.leaf, h2]
      rfl
    · rw [PyData.weightAll, List.length_cons]
      have := l.small
      omega
    · rw [PyData.depthAll]
      have := l.flat
      omega
theorem th_list (hp : H p = some (.lst xs)) (np : p ≠ a) (h : ∀ x ∈ xs, Od K a H x) (hl : xs.length ≤ 320) : Th K a H (.ref p) := by
  obtain ⟨ds, g, h1, h2, h3, h4⟩ := ods h
  refine ⟨.list ds, fun H' e => ?_⟩
  have e1 := e.keep _ _ hp np
  refine ⟨.row e1 (g H' e).1 ⟨by rw [PyData.showable]; exact h1, by rw [PyData.leavesShort]; exact h2, by rw [PyData.weight]; omega, by rw [PyData.depth]; omega⟩, .lst e1 (g H' e).2⟩
theorem ns_th (n : Ns a c H p xs) (hc : c ≤ 1000000000000000000000000000000000000000000) (hl : xs.length ≤ 320) : Th K a H (.ref p) :=
  th_list n.at_ n.ne (fun x hx => od_num (n.num x hx).1 (n.num x hx).2 hc) hl
/-- the data of a row of numbers -/
theorem nums_dp {H' : Hp} : ∀ {xs : List V}, (∀ x ∈ xs, Num x ∧ Bnd c x) → DpAll K H' xs (xs.map numD)
  | [], _ => .nil
  | x :: xs, h => .cons (num_dp (h x List.mem_cons_self).1) (nums_dp fun y hy => h y (List.mem_cons_of_mem _ hy))
theorem nums_lite (hc : c ≤ 1000000000000000000000000000000000000000000) : ∀ {xs : List V}, (∀ x ∈ xs, Num x ∧ Bnd c x) → PyData.showableAll (xs.map numD) = true ∧ PyData.leavesShortAll 152 (xs.map numD) = true ∧ PyData.weightAll (xs.map numD) ≤ 141 * xs.length ∧ PyData.depthAll (xs.map numD) ≤ 3 ∧ PyData.hasDictAll (xs.map numD) = false
  | [], _ => ⟨rfl, rfl, Nat.le_refl _, by decide, rfl⟩
  | x :: xs, h => by
    obtain ⟨h1, h2, h3, h4, h5⟩ := nums_lite hc (xs := xs) fun y hy => h y (List.mem_cons_of_mem _ hy)
    obtain ⟨n, b⟩ := h x List.mem_cons_self
    have l := lite_num n (log_bnd b hc)
    refine ⟨?_, ?_, ?_, ?_, ?_⟩
    · rw [List.map_cons, PyData.showableAll, l.able, h1]
      rfl
    · rw [List.map_cons, PyData.leavesShortAll, l.leaf, h2]
      rfl
    · rw [List.map_cons, PyData.weightAll, List.length_cons]
      have := l.small
      omega
    · rw [List.map_cons, PyData.depthAll]
      have := l.flat
      omega
    · rw [List.map_cons, PyData.hasDictAll, num_hd n, h5]
      rfl
theorem fit_of {d : PyData} (h1 : d.showable = true) (h2 : d.leavesShort 152 = true) (h3 : d.weight ≤ 100000) (h4 : d.depth ≤ 50) : Fit d := ⟨h1, h2, h3, h4⟩
/-- tuple(row) -/
theorem th_tuple (hh : ∀ H', Ext a H H' → H' p = some (.tup xs)) (h : ∀ x ∈ xs, Num x ∧ Bnd c x) (hc : c ≤ 1000000000000000000000000000000000000000000) (hl : xs.length ≤ 320) : Th K a H (.ref p) := by
  obtain ⟨h1, h2, h3, h4, h5⟩ := nums_lite hc h
  refine ⟨.tuple (xs.map numD), fun H' e => ⟨.dat (.tup (.inl (.inl (hh H' e))) (nums_dp h)) (by rw [PyData.hasDict]; exact h5) ⟨by rw [PyData.showable]; exact h1, by rw [PyData.leavesShort]; exact h2, by rw [PyData.weight]; omega, by rw [PyData.depth]; omega⟩, .tup (hh H' e)⟩⟩
/-- [row] -/
theorem th_in {q : Addr} (hp : H p = some (.lst [.ref q])) (np : p ≠ a) (n : Ns a c H q xs) (hc : c ≤ 1000000000000000000000000000000000000000000) (hl : xs.length ≤ 320) : Th K a H (.ref p) := by
  obtain ⟨h1, h2, h3, h4, h5⟩ := nums_lite hc n.num
  refine ⟨.list [.list (xs.map numD)], fun H' e => ?_⟩
  have e1 := e.keep _ _ hp np
  have e2 := (n.ext e).at_
  refine ⟨.dat (.lst (SqL.new e1) (.cons (.lst (SqL.new e2) (nums_dp n.num)) .nil)) ?_ ⟨?_, ?_, ?_, ?_⟩, .lst e1 fun y hy => ?_⟩
  · simp only [PyData.hasDict, PyData.hasDictAll, h5]
    rfl
  · simp only [PyData.showable, PyData.showableAll, h1]
    rfl
  · simp only [PyData.leavesShort, PyData.leavesShortAll, h2]
    rfl
  · simp only [PyData.weight, PyData.weightAll]
    omega
  · simp only [PyData.depth, PyData.depthAll]
    omega
  · rw [List.mem_singleton.mp hy]
    exact .inr (ni_lst e2)
/-- (row,) -/
theorem th_inT {q : Addr} (hp : ∀ H', Ext a H H' → H' p = some (.tup [.ref q])) (n : Ns a c H q xs) (hc : c ≤ 1000000000000000000000000000000000000000000) (hl : xs.length ≤ 320) : Th K a H (.ref p) := by
  obtain ⟨h1, h2, h3, h4, h5⟩ := nums_lite hc n.num
  refine ⟨.tuple [.list (xs.map numD)], fun H' e => ?_⟩
  have e1 := hp H' e
  have e2 := (n.ext e).at_
  refine ⟨.dat (.tup (.inl (.inl e1)) (.cons (.lst (SqL.new e2) (nums_dp n.num)) .nil)) ?_ ⟨?_, ?_, ?_, ?_⟩, .tup e1⟩
  · simp only [PyData.hasDict, PyData.hasDictAll, h5]
    rfl
  · simp only [PyData.showable, PyData.showableAll, h1]
    rfl
  · simp only [PyData.leavesShort, PyData.leavesShortAll, h2]
    rfl
  · simp only [PyData.weight, PyData.weightAll]
    omega
  · simp only [PyData.depth, PyData.depthAll]
    omega
/-- dict(enumerate(row)) -/
theorem en_lite (hc : c ≤ 1000000000000000000000000000000000000000000) : ∀ {xs : List V} {k : Nat}, (∀ x ∈ xs, Num x ∧ Bnd c x) → k + xs.length ≤ 1000 → PyData.showableKv ((enK k xs).map fun e => (PyData.int e.1, numD e.2)) = true ∧ PyData.leavesShortKv 152 ((enK k xs).map fun e => (PyData.int e.1, numD e.2)) = true ∧ PyData.weightKv ((enK k xs).map fun e => (PyData.int e.1, numD e.2)) ≤ 160 * xs.length ∧ PyData.depthKv ((enK k xs).map fun e => (PyData.int e.1, numD e.2)) ≤ 3
  | [], _, _, _ => ⟨rfl, rfl, Nat.le_refl _, by rw [enK, List.map_nil, PyData.depthKv]; omega⟩
  | x :: xs, k, h, hk => by
    rw [List.length_cons] at hk
    obtain ⟨h1, h2, h3, h4⟩ := en_lite hc (xs := xs) (k := k + 1) (fun y hy => h y (List.mem_cons_of_mem _ hy)) (by omega)
    obtain ⟨n, b⟩ := h x List.mem_cons_self
    have l := lite_num n (log_bnd b hc)
    have lk : ((k : Int)).natAbs.log2 < 10 := by
      by_cases h0 : ((k : Int)).natAbs = 0
      · rw [h0]; decide
      · exact (Nat.log2_lt h0).mpr (by omega)
    have lki := lite_int (i := (k : Int)) (by omega)
    have wk : (PyData.int (k : Int)).weight ≤ 10 := by
      rw [PyData.weight]
      split <;> omega
    refine ⟨?_, ?_, ?_, ?_⟩
    · rw [enK, List.map_cons, PyData.showableKv, l.able, lki.able, h1]
      rfl
    · rw [enK, List.map_cons, PyData.leavesShortKv, l.leaf, lki.leaf, h2]
      rfl
    · rw [enK, List.map_cons, PyData.weightKv, List.length_cons]
      dsimp only
      have := l.small
      omega
    · rw [enK, List.map_cons, PyData.depthKv]
      dsimp only
      have h5 := l.flat
      have h6 := lki.flat
      omega
theorem th_dict (hh : ∀ H', Ext a H H' → H' p = some (.dK ((enK 0 xs).map entQ))) (h : ∀ x ∈ xs, Num x ∧ Bnd c x) (hc : c ≤ 1000000000000000000000000000000000000000000) (hl : xs.length ≤ 320) : Th K a H (.ref p) := by
  obtain ⟨h1, h2, h3, h4⟩ := en_lite hc (k := 0) h (by omega)
  refine ⟨dkv (enK 0 xs), fun H' e => ⟨.dct (hh H' e) (fun e he => (h e.2 (enK_mem he).1).1) ⟨by rw [PyData.showable]; exact h1, by rw [PyData.leavesShort]; exact h2, by rw [PyData.weight]; omega, by rw [PyData.depth]; omega⟩, .dct (hh H' e)⟩⟩
end
end Rq

/-! the promises of k01's defs. -/
namespace Rq
open PySem L2 Sp
def spOdd01 (K : PySem.W.Frag) : L2.Sp := fun vs H Q _ => ∃ (a p : Addr) (xs : List V) (c : Int) (i : Nat), vs = [.ref a, .ref p, .int (i : Int)] ∧ HandAt H a ∧ Ns a c H p xs ∧ i ≤ xs.length ∧ xs.length ≤ 400 ∧ 1000000000000000 ≤ c ∧ c + 1 ≤ 1000000000000000000000000000000000000000000 ∧
  ∀ (v : V) (H' : Hp), Ext a H H' → Od K a H' v → (Num v → Bnd (c + 1) v) → Q v H'
def spSpoilt01 (K : PySem.W.Frag) : L2.Sp := fun vs H Q _ => ∃ (a p : Addr) (xs : List V) (c : Int), vs = [.ref a, .ref p] ∧ HandAt H a ∧ Ns a c H p xs ∧ xs.length ≤ 310 ∧ 1000000000000000 ≤ c ∧ c + 1 ≤ 1000000000000000000000000000000000000000000 ∧
  ∀ (v : V) (H' : Hp), Ext a H H' → Th K a H' v → (∀ (p : Addr) (xs' : List V), v = .ref p → H' p = some (.lst xs') → p ≠ a ∧ xs'.length ≤ xs.length + 1 ∧ ∀ x ∈ xs', Num x → Bnd (c + 1) x) → Q v H'
def spIs01 (K : PySem.W.Frag) : L2.Sp := fun vs H Q _ => ∃ x : V, vs = [x] ∧ Inf K H x ∧ ∀ b : Bool, (b = true ↔ ∃ (p : Addr) (xs : List V), x = .ref p ∧ H p = some (.lst xs) ∧ IsRow xs) → Q (.bl b) H
def spWholes01 (K : PySem.W.Frag) : L2.Sp := fun vs H Q _ => ∃ x : V, vs = [x] ∧ Inf K H x ∧ (∀ (p : Addr) (xs : List V), x = .ref p → H p = some (.lst xs) → xs.length ≤ 1000) ∧ ∀ (b : Bool) (H' : Hp), (b = true → ∃ (p : Addr) (xs : List V), x = .ref p ∧ H p = some (.lst xs) ∧ ∀ y ∈ xs, Num y) → Same H H' → Q (.bl b) H'
theorem Inf.up {K : PySem.W.Frag} {H H' : Hp} {v : V} (s : Same H H') (h : Inf K H v) : Inf K H' v := by
  cases h with
  | lst e k => exact .lst (s _ _ e) fun y hy => (k y hy).up s
  | tup e => exact .tup (s _ _ e)
  | dct e => exact .dct (s _ _ e)
  | int i => exact .int i
  | bl b => exact .bl b
  | str z => exact .str z
  | non => exact .non
theorem bool_ty {K : PySem.W.Frag} {H : Hp} {x : V} {T : String} (t : TyX K H x (.type T)) (h : T = "bool") : Num x := by
  cases t with
  | base b => cases b <;> first | exact .inr ⟨_, rfl⟩ | (exfalso; revert h; decide)
  | _ => exfalso; revert h; decide
/-- an if, its test told once -/
theorem if_once {c : TT} {t u : TS} {D : Ends} {σ : L2.St} {H : Hp} (I J : Hp → Prop) (key : ∀ K : Bool → Hp → Prop, (∀ H1, I H1 → K true H1) → (∀ H1, J H1 → K false H1) → c σ H K) (h1 : ∀ H1, I H1 → t D σ H1) (h2 : ∀ H1, J H1 → u D σ H1) : tIfS c t u D σ H :=
  key (fun b H1 => if b = true then t D σ H1 else u D σ H1) (fun H1 h => by rw [if_pos rfl]; exact h1 H1 h) fun H1 h => by rw [if_neg (by decide)]; exact h2 H1 h
theorem Ns.mono {a p : Addr} {c d : Int} {H : Hp} {xs : List V} (n : Ns a c H p xs) (h : c ≤ d) : Ns a d H p xs := ⟨n.at_, n.ne, fun x hx => ⟨(n.num x hx).1, by have := (n.num x hx).2.1; omega, by have := (n.num x hx).2.2; omega⟩⟩
/-- items of the first so many that are no whole numbers -/
def isNum : V → Bool
  | .int _ => true
  | .bl _ => true
  | _ => false
theorem isNum_iff {v : V} : isNum v = true ↔ Num v := by
  constructor
  · intro h
    cases v <;> first | exact .inl ⟨_, rfl⟩ | exact .inr ⟨_, rfl⟩ | cases h
  · rintro (⟨i, rfl⟩ | ⟨b, rfl⟩) <;> rfl
/-- the last number looked at so far, while all went well -/
theorem row_take {xs : List V} {i : Nat} (h : IsRow (xs.take i)) {n : Int} (hx : xs[i]? = some (.int n)) (hg : ∀ m : Int, 0 < i → xs[i - 1]? = some (.int m) → m ≤ n) : IsRow (xs.take (i + 1)) := by
  obtain ⟨ns, e, s⟩ := h
  have li := (List.getElem?_eq_some_iff.mp hx).1
  refine ⟨ns ++ [n], by rw [take_snoc hx, e, List.map_append]; rfl, List.pairwise_append.mpr ⟨s, List.pairwise_singleton _ _, fun a ha b hb => ?_⟩⟩
  rw [List.mem_singleton.mp hb]
  have ln : ns.length = i := by
    have := congrArg List.length e
    rw [List.length_take, List.length_map] at this
    omega
  obtain ⟨j, hj⟩ := List.mem_iff_getElem?.mp ha
  have lj := (List.getElem?_eq_some_iff.mp hj).1
  obtain ⟨m, hm⟩ : ∃ m, ns[i - 1]? = some m := ⟨_, List.getElem?_eq_getElem (by omega)⟩
  have h1 : xs[i - 1]? = some (.int m) := by
    have : (xs.take i)[i - 1]? = some (V.int m) := by rw [e, List.getElem?_map, hm]; rfl
    rw [List.getElem?_take] at this
    split at this
    · exact this
    · cases this
  have h2 := sorted_le s hj hm (by omega)
  have h3 := hg m (by omega) h1
  omega
theorem row_sub {xs : List V} {i : Nat} (h : IsRow xs) : IsRow (xs.take i) := by
  obtain ⟨ns, rfl, s⟩ := h
  exact ⟨ns.take i, by rw [List.map_take], s.sublist (List.take_sublist _ _)⟩
end Rq

/-! a list of things == a list of whole numbers; things drawn from a list: k46. -/
namespace Rq
section
open PySem PySem.SeqAt AutoSeq1 MeetsSeq MeetsSeq2 MeetsSeq3 SeqRoads2
theorem dict_eq_no_int (l : Addr) (es : Array DictEntry) (n : Nat) (dd : Option Addr) (sl : Array (Option Value)) (b : Int) (u : Tok) :
    Meets (Builtin.«dict.__eq__» ⟨[.ref l, .int b u], []⟩) (fun _ R s => s.heap.get? l = some { cls := .type "dict", dict := dd, data := .dict es n, slots := sl } ∧ R (.ok (.ret .notImplemented)) s) :=
  .of_wp fun prog w A R s h => by
    obtain ⟨hp, g, d, tk, os⟩ := s
    obtain ⟨hl, h⟩ := h
    have f1 := PySem.F.sub_int_dict
    wp_walk using wpAny_loadPart' hl
    exact ⟨_, rfl, h⟩
theorem int_eq_no_dict (b : Int) (u : Tok) (l : Addr) (es : Array DictEntry) (n : Nat) (dd : Option Addr) (sl : Array (Option Value)) :
    Meets (Builtin.«int.__eq__» ⟨[.int b u, .ref l], []⟩) (fun _ R s => s.heap.get? l = some { cls := .type "dict", dict := dd, data := .dict es n, slots := sl } ∧ R (.ok (.ret .notImplemented)) s) :=
  .of_wp fun prog w A R s h => by
    obtain ⟨hp, g, d, tk, os⟩ := s
    obtain ⟨hl, h⟩ := h
    wp_walk using wpAny_loadPart' hl, wpAny_load hl
    exact ⟨_, rfl, h⟩
theorem rc_dict_int {A : Around} {s : Shared} {l : Addr} {o : Obj} {es : Array DictEntry} {n : Nat} (b : Int) (u : Tok) (ho : s.heap.get? l = some o) (hc : o.cls = .type "dict") (hd : o.data = .dict es n) (hu : A.units < cLine) : RcAt A s (.ref l) (.int b u) false := fun prog w E Q h => by
  obtain ⟨cls, dd, data, sl⟩ := o
  simp only at hc hd
  subst hc hd
  exact rc_eq_decline_or (k := false) ⟨_, ho, rfl⟩ (typeIs_int s b u) (by decide) PySem.F.sub_int_dict PySem.F.slot_dict_eq PySem.F.slot_int_eq_refl
    (fun _ hq => call_meets PySem.F.slot_dict_eq ⟨_, ho, rfl⟩ PySem.F.entry_dict_eq (PySem.F.args_dict_eq_2 _ _) (dict_eq_no_int l es n dd sl b u) ⟨ho, hq⟩)
    (fun _ hq => call_meets PySem.F.slot_int_eq_refl (typeIs_int s b u) PySem.F.entry_int_eq (PySem.F.args_int_eq_2 _ _) (int_eq_no_dict b u l es n dd sl) ⟨ho, hq⟩)
    (fun _ hq => wpAny_of_eq (rfl : isSame (.ref l) (.int b u) = pure false) hq) (.inr hu) h
theorem eq_dict_int {A : Around} {s : Shared} {l : Addr} {o : Obj} {es : Array DictEntry} {n : Nat} (b : Int) (u : Tok) (ho : s.heap.get? l = some o) (hc : o.cls = .type "dict") (hd : o.data = .dict es n) (hu : A.units < cLine) : EqAt A s (.ref l) (.int b u) false := fun prog w E Q h => by
  unfold eqBool
  refine wpAny_holding ?_
  refine wpAny_ite_split (fun hab => absurd (eq_of_beq hab) nofun) (fun _ => ?_)
  exact wpAny_bind (rc_dict_int b u ho hc hd hu prog w E _ (wpAny_truthy_bool h))
end
open PySem PySem.Spec PyProof.Rows L2 Sp
/-- == with a whole number -/
def eqI : V → Int → Bool
  | .int i, j => i == j
  | .bl b, j => (if b = true then (1 : Int) else 0) == j
  | _, _ => false
section
variable {X : Cx} {pins : List (Addr × Obj)} {σ : L2.St} {H : Hp} {s : Shared}
theorem el_eqAt (I : Inv X pins σ H s) {A : Around} (hu : A.units < cLine) {v : V} {d : PyData} {u : Value} (e : El X.K H v d) (r : RelV v u) (j : Int) (t : Tok) : SeqAt.EqAt A s u (.int j t) (eqI v j) := by
  cases e with
  | dat h n =>
    cases h with
    | non => cases r; exact SeqAt.EqAt.none_int j t
    | bl b => cases r; exact SeqAt.EqAt.bool_int b j t
    | int i =>
      obtain ⟨t2, rfl⟩ := r
      exact SeqAt.EqAt.int_int i t2 j t
    | str z =>
      obtain ⟨t2, rfl⟩ := r
      exact SeqAt.EqAt.str_int z t2 j t
    | lst hs _ =>
      cases (show u = Value.ref _ from r)
      obtain ⟨its, _, hl, _⟩ := I.list hs
      exact SeqAt.EqAt.list_int j t hl.isList hu
    | tup hs _ =>
      cases (show u = Value.ref _ from r)
      obtain ⟨its, _, hl, _⟩ := I.tuple hs
      exact SeqAt.EqAt.tuple_int j t hl hu
  | emp h =>
    cases (show u = Value.ref _ from r)
    obtain ⟨_, hs, vs, kv, hdo⟩ := I.hok _ _ h
    obtain ⟨es, ep, ⟨o, ho, hx, hdat⟩, _⟩ := Heap.DictOf.raw hdo
    exact eq_dict_int j t ho hx.1 hdat hu
theorem els_at {K : PySem.W.Frag} {H : Hp} {xs : List V} {ds : List PyData} (e : Els K H xs ds) : ∀ {j : Nat} {x : V}, xs[j]? = some x → ∃ d, El K H x d := by
  induction e with
  | nil => intro j x h; simp at h
  | cons e _ ih =>
    intro j x h
    cases j with
    | zero => cases h; exact ⟨_, e⟩
    | succ j => exact ih h
/-- xs == ns, xs any items, ns whole numbers -/
def rEqRow (K : PySem.W.Frag) : R2 := fun x y H Q => ∃ (a b : Addr) (xs : List V) (ds : List PyData) (ns : List Int), x = .ref a ∧ y = .ref b ∧ SqL K H a xs ∧ Els K H xs ds ∧ SqL K H b (ns.map V.int) ∧ ∀ c : Bool, (∀ ms : List Int, xs = ms.map V.int → c = decide (ms = ns)) → Q (.bl c) H
theorem op_eqRow (hu : X.A.units + 64 < cLine) : OpR X (compareOp .Eq) (rEqRow X.K) := by
  intro pins s σ H x y v u Q I rx ry h
  obtain ⟨a, b, xs, ds, ns, rfl, rfl, ha, hd, hb, q⟩ := h
  cases (show v = Value.ref a from rx)
  cases (show u = Value.ref b from ry)
  obtain ⟨us, r1, p1, _⟩ := I.list ha
  obtain ⟨ws, r2, p2, _⟩ := I.list hb
  have l1 := r1.length
  have l2 := r2.length
  rw [List.length_map] at l2
  by_cases hs : xs.length = ns.length
  · refine SeqAt.eq_listAt (e := fun j => eqI (xs.getD j .non) (ns.getD j 0)) p1.isList p2.isList (by rw [List.size_toArray, List.size_toArray]; omega) (by omega) (fun j h1 h2 => ?_) ⟨.bl _, H, I, rfl, q _ fun ms em => ?_⟩
    · rw [List.size_toArray] at h1 h2
      obtain ⟨x, hx⟩ : ∃ x, xs[j]? = some x := ⟨_, List.getElem?_eq_getElem (by omega)⟩
      obtain ⟨n, hn⟩ : ∃ n, ns[j]? = some n := ⟨_, List.getElem?_eq_getElem (by omega)⟩
      obtain ⟨x1, e1, g1⟩ := Vals.get (i := j) r1 hx
      obtain ⟨x2, e2, g2⟩ := Vals.get (i := j) (x := V.int n) r2 (by rw [List.getElem?_map, hn]; rfl)
      obtain ⟨t, rfl⟩ := g2
      obtain ⟨d, ed⟩ := els_at hd hx
      have a1 : us.toArray[j]'(by rw [List.size_toArray]; exact h1) = x1 := by
        rw [List.getElem_toArray]
        exact (List.getElem?_eq_some_iff.mp e1).2
      have a2 : ws.toArray[j]'(by rw [List.size_toArray]; exact h2) = Value.int n t := by
        rw [List.getElem_toArray]
        exact (List.getElem?_eq_some_iff.mp e2).2
      rw [a1, a2, show xs.getD j .non = x from by rw [List.getD_eq_getElem?_getD, hx]; rfl, show ns.getD j 0 = n from by rw [List.getD_eq_getElem?_getD, hn]; rfl]
      exact el_eqAt I (A := X.A.in1) (by show X.A.units + 1 < cLine; omega) ed g1 n t
    · subst em
      rw [List.length_map] at hs l1
      rw [List.size_toArray, ← l1]
      by_cases c : ms = ns
      · rw [decide_eq_true c]
        subst c
        refine List.all_eq_true.mpr fun j hj => ?_
        have := List.mem_range.mp hj
        obtain ⟨n, hn⟩ : ∃ n, ms[j]? = some n := ⟨_, List.getElem?_eq_getElem (by omega)⟩
        rw [List.getD_eq_getElem?_getD, List.getD_eq_getElem?_getD, List.getElem?_map, hn]
        show (n == n) = true
        simp
      · rw [decide_eq_false c]
        refine Bool.eq_false_iff.mpr fun h => c (List.ext_getElem? fun j => ?_)
        by_cases hj : j < ms.length
        · have h2 := List.all_eq_true.mp h j (List.mem_range.mpr hj)
          obtain ⟨m, hm⟩ : ∃ m, ms[j]? = some m := ⟨_, List.getElem?_eq_getElem hj⟩
          obtain ⟨n, hn⟩ : ∃ n, ns[j]? = some n := ⟨_, List.getElem?_eq_getElem (by omega)⟩
          rw [List.getD_eq_getElem?_getD, List.getD_eq_getElem?_getD, List.getElem?_map, hm, hn] at h2
          have h3 : (m == n) = true := h2
          rw [hm, hn, eq_of_beq h3]
        · rw [List.getElem?_eq_none (by omega), List.getElem?_eq_none (by omega)]
  · refine SeqAt.eq_list_lengthsAt p1.isList p2.isList (by rw [List.size_toArray, List.size_toArray, ← l1, ← l2]; simpa using hs) (by omega) ⟨.bl _, H, I, rfl, q _ fun ms em => ?_⟩
    subst em
    rw [List.length_map] at hs
    exact (decide_eq_false fun e => hs (by rw [e])).symm
end
/-! things drawn from a list -/
def OdD (K : PySem.W.Frag) (a : Addr) (H : Hp) (v : V) : Prop := ∃ d, Lite d ∧ ∀ H', ExtD a H H' → El K H' v d ∧ Kn K H' v
theorem OdD.ext {K : PySem.W.Frag} {a : Addr} {H H1 : Hp} {v : V} (o : OdD K a H v) (e : ExtD a H H1) : OdD K a H1 v := by
  obtain ⟨d, l, h⟩ := o
  exact ⟨d, l, fun H' e' => h H' (e.trans e')⟩
theorem odD_int {K : PySem.W.Frag} {a : Addr} {H : Hp} {i : Int} (h1 : -1000000000000000000000000000000000000000000 ≤ i) (h2 : i ≤ 1000000000000000000000000000000000000000000) : OdD K a H (.int i) :=
  ⟨.int i, lite_int (log_bnd (c := 1000000000000000000000000000000000000000000) (v := .int i) ⟨h1, h2⟩ (Int.le_refl _)), fun H' _ => ⟨.dat (.int i) rfl, .inl ⟨i, rfl⟩⟩⟩
/-- a thing, whatever else is made -/
def Its (K : PySem.W.Frag) (H : Hp) (v : V) : Prop := ∀ (p : Addr) (xs : List V), v = .ref p → H p = some (.lst xs) → xs.length ≤ 700 ∧ ∃ ds, Els K H xs ds
def Tq (K : PySem.W.Frag) (H : Hp) (v : V) : Prop := ∃ d, ∀ H', Same H H' → Dt K H' v d ∧ Inf K H' v ∧ Its K H' v
theorem els_dp {K : PySem.W.Frag} {H : Hp} {xs : List V} (h : ∀ x ∈ xs, ∃ d, El K H x d) : ∃ ds, Els K H xs ds := by
  induction xs with
  | nil => exact ⟨[], .nil⟩
  | cons x xs ih =>
    obtain ⟨d, e⟩ := h x List.mem_cons_self
    obtain ⟨ds, es⟩ := ih fun y hy => h y (List.mem_cons_of_mem _ hy)
    exact ⟨d :: ds, .cons e es⟩
theorem its_flat {K : PySem.W.Frag} {H : Hp} {v : V} (h : ∀ p, v ≠ .ref p) : Its K H v := fun p _ e _ => absurd e (h p)
theorem its_lst {K : PySem.W.Frag} {H : Hp} {p : Addr} {xs : List V} (e : H p = some (.lst xs)) (hl : xs.length ≤ 700) (h : ∀ x ∈ xs, ∃ d, El K H x d) : Its K H (.ref p) := fun p' ys h1 h2 => by
  cases h1
  rw [e] at h2
  cases h2
  exact ⟨hl, els_dp h⟩
theorem its_no {K : PySem.W.Frag} {H : Hp} {p : Addr} {o : HO} (e : H p = some o) (h : ∀ xs, o ≠ .lst xs) : Its K H (.ref p) := fun p' ys h1 h2 => by
  cases h1
  rw [e] at h2
  cases h2
  exact absurd rfl (h ys)
theorem Tq.up {K : PySem.W.Frag} {H H1 : Hp} {v : V} (o : Tq K H v) (e : Same H H1) : Tq K H1 v := by
  obtain ⟨d, h⟩ := o
  exact ⟨d, fun H' e' => h H' (e.trans e')⟩
def ThD (K : PySem.W.Frag) (a : Addr) (H : Hp) (v : V) : Prop := ∃ d, ∀ H', ExtD a H H' → Dt K H' v d ∧ Inf K H' v ∧ Its K H' v
theorem ThD.ext {K : PySem.W.Frag} {a : Addr} {H H1 : Hp} {v : V} (o : ThD K a H v) (e : ExtD a H H1) : ThD K a H1 v := by
  obtain ⟨d, h⟩ := o
  exact ⟨d, fun H' e' => h H' (e.trans e')⟩
theorem ThD.tq {K : PySem.W.Frag} {a : Addr} {H : Hp} {v : V} (o : ThD K a H v) : Tq K H v := by
  obtain ⟨d, h⟩ := o
  exact ⟨d, fun H' e' => h H' (.same e')⟩
structure Pl (K : PySem.W.Frag) (a : Addr) (H : Hp) (p : Addr) (xs : List V) : Prop where
  at_ : H p = some (.lst xs)
  ne : p ≠ a
  its : ∀ x ∈ xs, OdD K a H x
theorem Pl.ext {K : PySem.W.Frag} {a p : Addr} {H H1 : Hp} {xs : List V} (n : Pl K a H p xs) (e : ExtD a H H1) : Pl K a H1 p xs := ⟨e.keep _ _ n.at_ n.ne, n.ne, fun x hx => (n.its x hx).ext e⟩
section
variable {K : PySem.W.Frag} {a p : Addr} {H : Hp} {xs : List V}
theorem odsD : ∀ {xs : List V}, (∀ x ∈ xs, OdD K a H x) → ∃ ds : List PyData, (∀ H', ExtD a H H' → Els K H' xs ds ∧ ∀ y ∈ xs, Kn K H' y) ∧ PyData.showableAll ds = true ∧ PyData.leavesShortAll 152 ds = true ∧ PyData.weightAll ds ≤ 141 * xs.length ∧ PyData.depthAll ds ≤ 3
  | [], _ => ⟨[], fun _ _ => ⟨.nil, fun _ h => nomatch h⟩, rfl, rfl, Nat.le_refl _, by decide⟩
  | x :: xs, h => by
    obtain ⟨d, l, g⟩ := h x List.mem_cons_self
    obtain ⟨ds, g2, h1, h2, h3, h4⟩ := odsD (xs := xs) fun y hy => h y (List.mem_cons_of_mem _ hy)
    refine ⟨d :: ds, fun H' e => ⟨.cons (g H' e).1 (g2 H' e).1, fun y hy => ?_⟩, ?_, ?_, ?_, ?_⟩
    · rcases List.mem_cons.mp hy with rfl | hy
      · exact (g H' e).2
      · exact (g2 H' e).2 y hy
    · rw [PyData.showableAll, l.able, h1]
      rfl
    · rw [PyData.leavesShortAll, l.leaf, h2]
      rfl
    · rw [PyData.weightAll, List.length_cons]
      have := l.small
      omega
    · rw [PyData.depthAll]
      have := l.flat
      omega
theorem pl_thD (n : Pl K a H p xs) (hl : xs.length ≤ 700) : ThD K a H (.ref p) := by
  obtain ⟨ds, g, h1, h2, h3, h4⟩ := odsD n.its
  refine ⟨.list ds, fun H' e => ?_⟩
  have e1 := e.keep _ _ n.at_ n.ne
  exact ⟨.row e1 (g H' e).1 ⟨by rw [PyData.showable]; exact h1, by rw [PyData.leavesShort]; exact h2, by rw [PyData.weight]; omega, by rw [PyData.depth]; omega⟩, .lst e1 (g H' e).2, its_lst e1 hl fun x hx => (by obtain ⟨d, _, gd⟩ := n.its x hx; exact ⟨d, (gd H' e).1⟩)⟩
/-- whole numbers, none of them great -/
def Low (ns : List Int) : Prop := ∀ n ∈ ns, -1000000000000000000000000000000000000000000 ≤ n ∧ n ≤ 1000000000000000000000000000000000000000000
theorem pl_ints {ns : List Int} (h : H p = some (.lst (ns.map V.int))) (np : p ≠ a) (l : Low ns) : Pl K a H p (ns.map V.int) := ⟨h, np, fun x hx => by
  obtain ⟨n, hn, rfl⟩ := List.mem_map.mp hx
  exact odD_int (l n hn).1 (l n hn).2⟩
theorem low_nums {ns : List Int} (l : Low ns) : ∀ x ∈ ns.map V.int, Num x ∧ Bnd 1000000000000000000000000000000000000000000 x := fun x hx => by
  obtain ⟨n, hn, rfl⟩ := List.mem_map.mp hx
  exact ⟨.inl ⟨n, rfl⟩, (l n hn).1, (l n hn).2⟩
/-- a list of whole numbers is a thing -/
theorem ints_tq {ns : List Int} (h : H p = some (.lst (ns.map V.int))) (l : Low ns) (hl : ns.length ≤ 700) : Tq K H (.ref p) := by
  obtain ⟨h1, h2, h3, h4, h5⟩ := nums_lite (Int.le_refl _) (low_nums l)
  rw [List.length_map] at h3
  refine ⟨.list ((ns.map V.int).map numD), fun H' e => ⟨.dat (.lst (SqL.new (e _ _ h)) (nums_dp (low_nums l))) (by rw [PyData.hasDict]; exact h5) ⟨by rw [PyData.showable]; exact h1, by rw [PyData.leavesShort]; exact h2, by rw [PyData.weight]; omega, by rw [PyData.depth]; omega⟩, .lst (e _ _ h) (fun y hy => num_kn (low_nums l y hy).1), its_lst (e _ _ h) (by rw [List.length_map]; exact hl) fun y hy => ⟨_, .dat (num_dp (low_nums l y hy).1) (num_hd (low_nums l y hy).1)⟩⟩⟩
theorem tup_tq {ns : List Int} (h : H p = some (.tup (ns.map V.int))) (l : Low ns) (hl : ns.length ≤ 700) : Tq K H (.ref p) := by
  obtain ⟨h1, h2, h3, h4, h5⟩ := nums_lite (Int.le_refl _) (low_nums l)
  rw [List.length_map] at h3
  refine ⟨.tuple ((ns.map V.int).map numD), fun H' e => ⟨.dat (.tup (.inl (.inl (e _ _ h))) (nums_dp (low_nums l))) (by rw [PyData.hasDict]; exact h5) ⟨by rw [PyData.showable]; exact h1, by rw [PyData.leavesShort]; exact h2, by rw [PyData.weight]; omega, by rw [PyData.depth]; omega⟩, .tup (e _ _ h), its_no (e _ _ h) fun _ h => by cases h⟩⟩
theorem in_tq {q : Addr} {ns : List Int} (hp : H p = some (.lst [.ref q])) (h : H q = some (.lst (ns.map V.int))) (l : Low ns) (hl : ns.length ≤ 700) : Tq K H (.ref p) := by
  obtain ⟨h1, h2, h3, h4, h5⟩ := nums_lite (Int.le_refl _) (low_nums l)
  rw [List.length_map] at h3
  refine ⟨.list [.list ((ns.map V.int).map numD)], fun H' e => ⟨.dat (.lst (SqL.new (e _ _ hp)) (.cons (.lst (SqL.new (e _ _ h)) (nums_dp (low_nums l))) .nil)) ?_ ⟨?_, ?_, ?_, ?_⟩, .lst (e _ _ hp) (fun y hy => ?_), its_lst (e _ _ hp) (by simp) fun y hy => ⟨.list ((ns.map V.int).map numD), ?_⟩⟩⟩
  · simp only [PyData.hasDict, PyData.hasDictAll, h5]
    rfl
  · simp only [PyData.showable, PyData.showableAll, h1]
    rfl
  · simp only [PyData.leavesShort, PyData.leavesShortAll, h2]
    rfl
  · simp only [PyData.weight, PyData.weightAll]
    omega
  · simp only [PyData.depth, PyData.depthAll]
    omega
  · rw [List.mem_singleton.mp hy]
    exact .inr (ni_lst (e _ _ h))
  · rw [List.mem_singleton.mp hy]
    exact .dat (.lst (SqL.new (e _ _ h)) (nums_dp (low_nums l))) (by rw [PyData.hasDict]; exact h5)
theorem flat_tq {v : V} {d : PyData} (h : ∀ H', Dt K H' v d) (i : ∀ H', Inf K H' v) (n : ∀ p, v ≠ .ref p) : Tq K H v := ⟨d, fun H' _ => ⟨h H', i H', its_flat n⟩⟩
theorem emp_tq (h : H p = some (.dK [])) : Tq K H (.ref p) := ⟨dkv [], fun H' e => ⟨.dct (es := []) (e _ _ h) (fun _ h => nomatch h) ⟨rfl, rfl, by decide, by decide⟩, .dct (e _ _ h), its_no (e _ _ h) fun _ h => by cases h⟩⟩
end
theorem ixN_at {n k : Nat} (h : k < n) : ixN n (k : Int) = some k := by
  unfold ixN
  split <;> simp <;> omega
theorem nums_of : ∀ {xs : List V}, (∀ y ∈ xs, ∃ i, y = V.int i) → ∃ zs : List Int, xs = zs.map V.int
  | [], _ => ⟨[], rfl⟩
  | x :: xs, h => by
    obtain ⟨i, rfl⟩ := h x List.mem_cons_self
    obtain ⟨zs, rfl⟩ := nums_of (xs := xs) fun y hy => h y (List.mem_cons_of_mem _ hy)
    exact ⟨i :: zs, rfl⟩
/-! the promises of k46's defs -/
def spDeep46 : L2.Sp := fun vs H Q _ => ∃ k : Nat, vs = [.int (k : Int)] ∧ 0 < k ∧ k ≤ 5000 ∧ ∀ (t t' : Addr) (zs : List V) (H' : Hp), Same H H' → H t = none → H' t = some (.lst [.ref t']) → H' t' = some (.lst zs) → Q (.ref t) H'
def spSpoilt46 (K : PySem.W.Frag) : L2.Sp := fun vs H Q _ => ∃ (a p : Addr) (xs : List V) (n : Nat), vs = [.ref a, .ref p, .int (n : Int)] ∧ DrawAt H a ∧ Pl K a H p xs ∧ xs.length ≤ 600 ∧ n ≤ 300 ∧
  ∀ (p' : Addr) (xs' : List V) (H' : Hp), ExtD a H H' → Pl K a H' p' xs' → xs'.length ≤ xs.length + 1 → Q (.ref p') H'
def spRight46 (K : PySem.W.Frag) : L2.Sp := fun vs H Q _ => ∃ (p q d : Addr) (ns ms : List Int) (n : Int) (x : V), vs = [.ref p, .ref q, .int n, .ref d, x] ∧ H p = some (.lst (ns.map V.int)) ∧ H q = some (.lst (ms.map V.int)) ∧ ns.Pairwise (· ≤ ·) ∧ ms.Pairwise (· ≤ ·) ∧ ns.length ≤ 300 ∧ ms.length ≤ 300 ∧
  H d = some (.lst ((belowL ns ms n).map V.int)) ∧ Tq K H x ∧ ∀ H', Same H H' → Q (.bl true) H'
def spBeside46 (K : PySem.W.Frag) : L2.Sp := fun vs H Q _ => ∃ (a p q d : Addr) (ns ms : List Int) (n : Int), vs = [.ref a, .ref p, .ref q, .int n, .ref d] ∧ DrawAt H a ∧ p ≠ a ∧ q ≠ a ∧ d ≠ a ∧ H p = some (.lst (ns.map V.int)) ∧ H q = some (.lst (ms.map V.int)) ∧ ns.Pairwise (· ≤ ·) ∧ ms.Pairwise (· ≤ ·) ∧ ns.length ≤ 300 ∧ ms.length ≤ 300 ∧
  H d = some (.lst ((belowL ns ms n).map V.int)) ∧ ∀ H', ExtD a H H' → Q (.bl true) H'
def spMore46 : L2.Sp := fun vs H Q _ => ∃ (a : Addr), vs = [.ref a] ∧ DrawAt H a ∧ ∀ H', ExtD a H H' → Q (.bl true) H'
theorem belowL_low {ns ms : List Int} {n : Int} (hm : ms.length ≤ 1000) : Low (belowL ns ms n) := fun m hm2 => by
  unfold belowL at hm2
  obtain ⟨x, _, rfl⟩ := List.mem_map.mp hm2
  have := cntB_le ms (n - x)
  omega
end Rq

namespace Sp
open PySem L2
def top (i : Nat) : Stmt := PySem.Challenge.pw_sumplace_k46_papers_looked_at.main.body.getD i (.Pass ⟨0, 0, 0, 0⟩)
abbrev sis_whole : Stmt := top 1
abbrev sby_paper : Stmt := top 3
abbrev sshows : Stmt := top 4
abbrev slaw_draws : Stmt := top 6
abbrev slaw_take : Stmt := top 7
abbrev slaw_row : Stmt := top 8
abbrev slaw_asked : Stmt := top 9
abbrev slaw_whole : Stmt := top 10
abbrev slaw_wholes : Stmt := top 11
abbrev slaw_below : Stmt := top 12
abbrev slaw_many_below : Stmt := top 13
abbrev slaw_deep : Stmt := top 14
abbrev slaw_right : Stmt := top 15
abbrev slaw_spoilt : Stmt := top 16
abbrev slaw_beside_right : Stmt := top 17
abbrev slaw_more_right : Stmt := top 18
abbrev slaw : Stmt := top 19
theorem scis_whole : FnScope ["thing"] ["thing"] (defScope sis_whole) := ⟨rfl, rfl, rfl, by decide +kernel, rfl, by decide +kernel, by decide +kernel⟩
theorem scby_paper : FnScope ["one", "other", "number", "thing", "own", "shown"] ["one", "other", "number", "thing"] (defScope sby_paper) := ⟨rfl, rfl, rfl, by decide +kernel, rfl, by decide +kernel, by decide +kernel⟩
theorem scshows : FnScope ["thing", "row", "number"] ["thing", "row", "number"] (defScope sshows) := ⟨rfl, rfl, rfl, by decide +kernel, rfl, by decide +kernel, by decide +kernel⟩
theorem sclaw_draws : FnScope ["script", "draws", "k", "rest", "stir", "many"] ["script"] (defScope slaw_draws) := ⟨rfl, rfl, rfl, by decide +kernel, rfl, by decide +kernel, by decide +kernel⟩
theorem sclaw_take : FnScope ["draws", "many"] ["draws", "many"] (defScope slaw_take) := ⟨rfl, rfl, rfl, by decide +kernel, rfl, by decide +kernel, by decide +kernel⟩
theorem sclaw_row : FnScope ["draws", "most", "many", "bases", "base", "mixed", "most_step", "number", "top", "one", "other", "likes", "found", "k", "turn"] ["draws", "most"] (defScope slaw_row) := ⟨rfl, rfl, rfl, by decide +kernel, rfl, by decide +kernel, by decide +kernel⟩
theorem sclaw_asked : FnScope ["draws", "one", "other", "way", "sums", "k", "low", "far"] ["draws", "one", "other"] (defScope slaw_asked) := ⟨rfl, rfl, rfl, by decide +kernel, rfl, by decide +kernel, by decide +kernel⟩
theorem sclaw_whole : FnScope ["thing"] ["thing"] (defScope slaw_whole) := ⟨rfl, rfl, rfl, by decide +kernel, rfl, by decide +kernel, by decide +kernel⟩
theorem sclaw_wholes : FnScope ["thing", "many", "one"] ["thing", "many"] (defScope slaw_wholes) := ⟨rfl, rfl, rfl, by decide +kernel, rfl, by decide +kernel, by decide +kernel⟩
theorem sclaw_below : FnScope ["one", "other", "number", "found", "at", "low"] ["one", "other", "number"] (defScope slaw_below) := ⟨rfl, rfl, rfl, by decide +kernel, rfl, by decide +kernel, by decide +kernel⟩
theorem sclaw_many_below : FnScope ["one", "other", "number"] ["one", "other", "number"] (defScope slaw_many_below) := ⟨rfl, rfl, rfl, by decide +kernel, rfl, by decide +kernel, by decide +kernel⟩
theorem sclaw_deep : FnScope ["many", "found", "k"] ["many"] (defScope slaw_deep) := ⟨rfl, rfl, rfl, by decide +kernel, rfl, by decide +kernel, by decide +kernel⟩
theorem sclaw_right : FnScope ["one", "other", "number", "due", "thing", "many", "good", "handed", "kept", "found"] ["one", "other", "number", "due", "thing"] (defScope slaw_right) := ⟨rfl, rfl, rfl, by decide +kernel, rfl, by decide +kernel, by decide +kernel⟩
theorem sclaw_spoilt : FnScope ["draws", "paper", "size", "at", "odd", "way"] ["draws", "paper", "size"] (defScope slaw_spoilt) := ⟨rfl, rfl, rfl, by decide +kernel, rfl, by decide +kernel, by decide +kernel⟩
theorem sclaw_beside_right : FnScope ["draws", "one", "other", "number", "due", "k", "at", "more"] ["draws", "one", "other", "number", "due"] (defScope slaw_beside_right) := ⟨rfl, rfl, rfl, by decide +kernel, rfl, by decide +kernel, by decide +kernel⟩
theorem sclaw_more_right : FnScope ["draws", "one", "number", "due", "thing", "told", "many", "good", "other", "k", "i", "j", "bent"] ["draws"] (defScope slaw_more_right) := ⟨rfl, rfl, rfl, by decide +kernel, rfl, by decide +kernel, by decide +kernel⟩
theorem sclaw : FnScope ["script", "draws", "early", "many", "one", "other", "number", "due", "spoilt", "things", "thing"] ["script"] (defScope slaw) := ⟨rfl, rfl, rfl, by decide +kernel, rfl, by decide +kernel, by decide +kernel⟩
end Sp

namespace Sp
open PySem L2
section
variable {P : Program} {w : World} {K : PySem.W.Frag} {mg : Str → Option Value} {base : Heap}
local macro_rules | `(tactic| walk_at "side") => `(tactic| first
  | exact mulW (by omega) (by omega) (by omega) (by omega)
  | exact divW (by omega) (by omega)
  | exact mulW (by decide +kernel) (by decide +kernel) (by decide +kernel) (by decide +kernel)
  | (show CPow _ _; exact ⟨by decide, by decide, by decide⟩)
  | (show (0 : Int) < _; omega)
  | exact small (Nat.le_of_ble_eq_true rfl)
  | decide
  | omega)
local macro_rules | `(tactic| walk_at "ne") => `(tactic| first | assumption | exact ne_of_none (by assumption) (by assumption) | exact Ne.symm (by assumption))
local macro_rules | `(tactic| walk_at "get") => `(tactic| first | assumption | exact upd_same | (refine (by assumption : Same _ _) _ _ ?_; walk_at "get") | (refine ExtD.keep (by assumption) _ _ ?_ (by walk_at "ne"); walk_at "get"))
local macro_rules | `(tactic| walk_at "sq") => `(tactic| first | assumption | exact SqL.new (by walk_at "get") | exact Or.inl (Or.inl (by walk_at "get")) | (refine Same.seq (by assumption) ?_; walk_at "sq") | (refine seqExtD (by assumption) (by walk_at "ne") ?_; walk_at "sq"))
local macro_rules | `(tactic| walk_at "hand") => `(tactic| first | assumption | (refine DrawAt.same (by assumption) ?_; walk_at "hand") | (refine ExtD.hand (by assumption) ?_; walk_at "hand"))
local macro_rules | `(tactic| walk_at "at") => `(tactic| first | exact at0 | exact at1)
local macro_rules | `(tactic| walk_at "s") => `(tactic| first
  | refine ⟨_, rfl, ?_⟩
  | refine ⟨_, _, rfl, rfl, ?_⟩
  | refine ⟨_, _, _, _, rfl, rfl, (by walk_at "sq"), (by walk_at "at"), ?_⟩
  | refine ⟨_, _, _, _, rfl, rfl, (by first | assumption | exact upd_same), rfl, ?_⟩
  | refine And.intro (by walk_at "side") ?_)
local macro_rules | `(tactic| walk_at "pos") => `(tactic| first | omega | decide | (show (0 : Int) < _; decide +kernel) | (show _ < (2 ^ 62 : Int); decide +kernel) | (show (0 : Int) < _; omega))

theorem ok_draws {f : Addr} {fd : FuncData} (B : Bt mg) (F : Fun K "_law_draws" "_law_draws" slaw_draws f fd) : FnOk P w K mg base CX0 1 f fd ["script"] (spDraws K) := by
  have nd := sclaw_draws.nd
  refine F.ok sclaw_draws (fun vs H Q E h => ?_) (fun cdv A outer s H vs Q E hr h => ?_)
  · obtain ⟨sc, ns, rfl, _⟩ := h
    rfl
  · obtain ⟨sc, ns, rfl, hS, hl, q⟩ := h
    refine ⟨_, (pss_cons (ps_set (i := 1) nd rfl (.inl rfl) (pe_lst pa_nil))
      (pss_cons (ps_for PassesOwn.never rfl (pi_range1 (by rfl) B.range_ (pa_cons (pe_callB (call_min2 rfl) (by rfl) B.min_ (by decide +kernel) (pa_cons (pe_callB call_len_seq (by rfl) B.len_ (by decide +kernel) (pa_cons (pv 0) pa_nil)) (pa_cons pe_int pa_nil))) pa_nil)) (pg_name (i := 2) nd rfl (.inl rfl)) (pss_cons (ps_set (i := 3) nd rfl (.inl rfl) (pe_callB call_abs (by rfl) B.abs_ (by decide +kernel) (pa_cons (pe_ix ix_list (pv 0) (pv 2) (fun _ _ => rfl)) pa_nil)))
      (pss_one (ps_if (pt_cmpR op_lt (pv 3) (pe_op op_pow pe_int pe_int) (nomark _)) (pss_cons (ps_set (i := 4) nd rfl (.inl rfl) (pe_op op_mod (pe_op op_mulW (pe_op op_mod (pe_op op_add (pe_op op_add (pv 3) (pe_op op_mulW pe_int (pv 2))) pe_int) pe_int) pe_int) pe_int))
      (pss_cons (ps_set (i := 4) nd rfl (.inl rfl) (pe_op op_mod (pe_op op_mulW (pv 4) (pv 4)) pe_int))
      (pss_cons (ps_expr (pe_bm PySem.F.plainAttrs_list PySem.F.slot_list_append PySem.F.type_list_append mt_append (pv 1) (pa_cons (pe_op op_mod (pe_op op_fdivW (pv 4) pe_int) pe_int) pa_nil)))
      (pss_cons (ps_expr (pe_bm PySem.F.plainAttrs_list PySem.F.slot_list_append PySem.F.type_list_append mt_append (pv 1) (pa_cons (pe_op op_mod (pe_op op_fdivW (pv 4) pe_int) pe_int) pa_nil)))
      (pss_cons (ps_set (i := 4) nd rfl (.inl rfl) (pe_op op_mod (pe_op op_add (pv 4) (pe_op op_mulW pe_int (pe_op op_add (pv 2) pe_int))) pe_int))
      (pss_one (ps_expr (pe_bm PySem.F.plainAttrs_list PySem.F.slot_list_append PySem.F.type_list_append mt_append (pv 1) (pa_cons (pe_op op_mod (pe_op op_fdivW (pe_op op_mod (pe_op op_mulW (pv 4) (pv 4)) pe_int) pe_int) pe_int) pa_nil))))))))) (pss_cons (ps_set (i := 5) nd rfl (.inl rfl) pe_int)
      (pss_one (ps_while PassesOwn.never (PW.pt (pw_and (pt_cmpR op_ge (pv 3) pe_int (nomark _)) (pw_and1 (pt_cmpR op_lt (pv 5) pe_int (nomark _))))) (pss_cons (ps_expr (pe_bm PySem.F.plainAttrs_list PySem.F.slot_list_append PySem.F.type_list_append mt_append (pv 1) (pa_cons (pe_op op_mod (pv 3) pe_int) pa_nil)))
      (pss_cons (ps_set (i := 3) nd rfl (.inl rfl) (pe_op op_fdivW (pv 3) pe_int))
      (pss_one (ps_set (i := 5) nd rfl (.inl rfl) (pe_op op_add (pv 5) pe_int))))))))))))
      (pss_one (ps_ret (pe_slice sl_list (pv 1) po_none (po_some pe_int)))))), ?_⟩
    repeat walk_at "s"
    intro p1 np1
    generalize hg1 : upd H p1 _ = H1
    have s1 : Same H H1 := hg1 ▸ same_new np1
    have e1 := (congrFun hg1 p1).symm.trans upd_same
    clear hg1
    repeat walk_at "s"
    refine ⟨_, _, rfl, .inl (s1.seq hS), ?_⟩
    rw [List.length_map]
    repeat walk_at "s"
    refine ⟨_, _, rfl, ?_⟩
    have e0 : (if (80 : Int) < (ns.length : Int) then (80 : Int) else (ns.length : Int)) = ((ns.length : Nat) : Int) := if_neg (by omega)
    rw [e0]
    refine ⟨(ns.length : Int), rfl, by omega, by omega, ?_⟩
    refine for_range (lo := 0) (n := ns.length) (fun i σ H' => Same H H' ∧ ∃ (ds : List Int) (v2 v3 v4 v5 : Option V), H' p1 = some (.lst (ds.map V.int)) ∧ ds.length ≤ 64 * i ∧ (∀ x ∈ ds, 0 ≤ x ∧ x < 1000) ∧ σ = [some (.ref sc), some (.ref p1), v2, v3, v4, v5]) ⟨s1, [], none, none, none, none, e1, by simp, (fun _ z => nomatch z), rfl⟩ (fun i σ Hi hi w => ?_) (fun σ Hi w => ?_)
    · obtain ⟨si, ds, v2, v3, v4, v5, eD, ld, bd, rfl⟩ := w
      obtain ⟨x, hx⟩ : ∃ x, ns[i]? = some x := ⟨_, List.getElem?_eq_getElem hi⟩
      repeat walk_at "s"
      refine ⟨_, _, _, .int x, rfl, rfl, si.seq hS, ?_, ?_⟩
      · show atI _ ((0 : Int) + (i : Int)) = _
        rw [Int.zero_add]
        exact atI_nat (by rw [List.getElem?_map, hx]; rfl)
      repeat walk_at "s"
      obtain ⟨r, hr0, r0⟩ : ∃ r : Int, (if x < 0 then -x else x) = r ∧ 0 ≤ r := ⟨_, rfl, by split <;> omega⟩
      rw [hr0]
      repeat walk_at "s"
      have t18 : (10 : Int) ^ Int.toNat 18 = 1000000000000000000 := by decide
      have put : ∀ (H0 : Hp) (zs : List Int) (y : Int), Same H H0 → H0 p1 = some (.lst (zs.map V.int)) → Same H (upd H0 p1 (.lst (zs.map V.int ++ [V.int y]))) ∧ (upd H0 p1 (.lst (zs.map V.int ++ [V.int y]))) p1 = some (.lst ((zs ++ [y]).map V.int)) := fun H0 zs y sz ez =>
        ⟨same_app np1 sz, by rw [upd_same, List.map_append]; rfl⟩
      have mod0 := fun (u : Int) => Int.emod_nonneg u (show (1000 : Int) ≠ 0 by decide)
      have mod1 := fun (u : Int) => Int.emod_lt_of_pos u (show (0 : Int) < 1000 by decide)
      have more : ∀ (zs : List Int) (u : Int), (∀ x ∈ zs, 0 ≤ x ∧ x < 1000) → ∀ x ∈ zs ++ [u % 1000], 0 ≤ x ∧ x < 1000 := fun zs u hz x hx => by
        rcases List.mem_append.mp hx with hx | hx
        · exact hz x hx
        · rw [List.mem_singleton.mp hx]
          exact ⟨mod0 u, mod1 u⟩
      refine ite2 (fun z => ?_) (fun z => ?_)
      · have z1 : r < 10 ^ Int.toNat 18 := of_decide_eq_true z
        rw [t18] at z1
        repeat walk_at "s"
        refine ⟨.inl ⟨rfl, _, SqL.new eD⟩, ?_⟩
        repeat walk_at "s"
        refine ⟨p1, _, _, rfl, rfl, eD, smallLt (by rw [List.length_map]; omega), ?_⟩
        obtain ⟨sa, ea⟩ := put Hi ds _ si eD
        generalize upd Hi p1 _ = Ha at sa ea
        repeat walk_at "s"
        refine ⟨.inl ⟨rfl, _, SqL.new ea⟩, ?_⟩
        repeat walk_at "s"
        refine ⟨p1, _, _, rfl, rfl, ea, smallLt (by rw [List.length_map, List.length_append]; simp; omega), ?_⟩
        obtain ⟨sb, eb⟩ := put Ha _ _ sa ea
        generalize upd Ha p1 _ = Hb at sb eb
        repeat walk_at "s"
        refine ⟨.inl ⟨rfl, _, SqL.new eb⟩, ?_⟩
        repeat walk_at "s"
        refine ⟨p1, _, _, rfl, rfl, eb, smallLt (by simp; omega), ?_⟩
        obtain ⟨sc', ec⟩ := put Hb _ _ sb eb
        refine ⟨sc', _, _, _, _, _, ec, by simp; omega, ?_, rfl⟩
        exact more _ _ (more _ _ (more _ _ bd))
      · repeat walk_at "s"
        refine ⟨fun m σ H1 => ∃ (r' : Int) (m' : Nat) (zs : List Int), Same H H1 ∧ H1 p1 = some (.lst (zs.map V.int)) ∧ m = 60 - m' ∧ m' ≤ 60 ∧ zs.length ≤ 64 * i + m' ∧ (∀ x ∈ zs, 0 ≤ x ∧ x < 1000) ∧ 0 ≤ r' ∧ σ = [some (.ref sc), some (.ref p1), some (.int (0 + (i : Int))), some (.int r'), v4, some (.int (m' : Int))],
          ⟨_, r, 0, ds, si, eD, rfl, by omega, by omega, bd, r0, rfl⟩, fun m σ H1 w => ?_⟩
        obtain ⟨r', m', zs, s1', ez, rfl, hm, lz, bz, r0', rfl⟩ := w
        repeat walk_at "s"
        by_cases c1 : (1000 : Int) ≤ r'
        · rw [decide_eq_true c1]
          refine iteT ?_
          repeat walk_at "s"
          refine ite2 (fun c2 => ?_) (fun c2 => ?_)
          · have c2' : (m' : Int) < 60 := of_decide_eq_true c2
            refine ⟨_, fun σ' H' k => k, ?_⟩
            repeat walk_at "s"
            refine ⟨.inl ⟨rfl, _, SqL.new ez⟩, ?_⟩
            repeat walk_at "s"
            refine ⟨p1, _, _, rfl, rfl, ez, smallLt (by rw [List.length_map]; omega), ?_⟩
            obtain ⟨sa, ea⟩ := put H1 zs _ s1' ez
            generalize upd H1 p1 _ = Ha at sa ea
            repeat walk_at "s"
            refine ⟨60 - (m' + 1), by omega, r' / 1000, m' + 1, _, sa, ea, rfl, by omega, by simp; omega, more _ _ bz, Int.ediv_nonneg r0' (by decide), ?_⟩
            rw [Int.natCast_add]
            rfl
          · repeat walk_at "s"
            exact ⟨zs, _, _, _, _, ez, by omega, bz, rfl⟩
        · rw [decide_eq_false c1]
          refine iteF ?_
          repeat walk_at "s"
          exact ⟨zs, _, _, _, _, ez, by omega, bz, rfl⟩
    · obtain ⟨si, ds, v2, v3, v4, v5, eD, ld, bd, rfl⟩ := w
      repeat walk_at "s"
      refine ⟨p1, ds.map V.int, rfl, SqL.new eD, ?_⟩
      intro d nd2
      have e : (cutV (ds.map V.int) none (some 240)) = (ds.take 240).map V.int := by
        rw [show (240 : Int) = ((240 : Nat) : Int) from rfl, cut_take, List.map_take]
      have sd : Same Hi (upd Hi d (.lst (cutV (ds.map V.int) none (some 240)))) := same_new nd2
      refine q d _ (si.trans sd) (by
        cases z : H d with
        | none => rfl
        | some o => rw [si _ _ z] at nd2; cases nd2) ⟨ds.take 240, by rw [upd_same, e], by rw [List.length_take]; omega, fun x hx => bd x (List.mem_of_mem_take hx)⟩

theorem ok_take {f : Addr} {fd : FuncData} (F : Fun K "_law_take" "_law_take" slaw_take f fd) : FnOk P w K mg base CX0 1 f fd ["draws", "many"] spTake := by
  have nd := sclaw_take.nd
  refine F.ok sclaw_take (fun vs H Q E h => ?_) (fun cdv A outer s H vs Q E hr h => ?_)
  · obtain ⟨a, n, rfl, _⟩ := h
    rfl
  · obtain ⟨a, n, rfl, h0, hn, q⟩ := h
    have hu := hr.units
    have hand := h0
    obtain ⟨ds, e0, l0, b0⟩ := h0
    refine ⟨_, (pss_cons (ps_if (pt_cmpR (op_eqD hu) (pv 0) (pe_lst pa_nil) (nomark _)) (pss_one (ps_ret pe_int)) pss_nil)
      (pss_one (ps_ret (pe_op op_mod (pe_bm PySem.F.plainAttrs_list PySem.F.slot_list_pop PySem.F.type_list_pop mt_popAt (pv 0) (pa_cons pe_int pa_nil)) (pv 1))))), ?_⟩
    repeat walk_at "s"
    intro p1 np1
    generalize hg1 : upd H p1 _ = H1
    have s1 : Same H H1 := hg1 ▸ same_new np1
    have e1 := (congrFun hg1 p1).symm.trans upd_same
    clear hg1
    have n1 : p1 ≠ a := DrawAt.ne (by walk_at "hand") np1
    refine ⟨_, _, dp_ints (SqL.new (s1 _ _ e0)), dp_ints (ns := []) (SqL.new e1), shaped_ints _, shaped_ints _, ?_⟩
    rw [eqv_ints]
    refine ⟨_, rfl, ?_⟩
    cases ds with
    | nil =>
      rw [decide_eq_true rfl]
      refine iteT ?_
      repeat walk_at "s"
      exact q 0 H1 (.same s1) (Int.le_refl _) hn (by decide)
    | cons d ds =>
      rw [decide_eq_false (by simp)]
      refine iteF ?_
      repeat walk_at "s"
      refine ⟨.inl ⟨rfl, _, SqL.new (s1 _ _ e0)⟩, ?_⟩
      repeat walk_at "s"
      refine ⟨a, _, 0, 0, .int d, rfl, rfl, s1 _ _ e0, by decide, by decide, (ixN_seq (Evl.ixN_nat (j := 0) (by simp))).1, rfl, ?_⟩
      have ed : (upd H1 a (.lst (((d :: ds).map V.int).eraseIdx 0))) a = some (.lst (ds.map V.int)) := upd_same
      have xd : ExtD a H (upd H1 a (.lst (((d :: ds).map V.int).eraseIdx 0))) := ⟨fun b o hb nb => by rw [upd_ne nb]; exact s1 _ _ hb, fun _ => ⟨ds, ed, by simp at l0; omega, fun x hx => b0 x (List.mem_cons_of_mem _ hx)⟩⟩
      have d0 := b0 d List.mem_cons_self
      repeat walk_at "s"
      have m1 := Int.emod_nonneg d (show n ≠ 0 by omega)
      have m2 := Int.emod_lt_of_pos d hn
      have m3 := Int.mul_ediv_add_emod d n
      have m4 := Int.mul_nonneg (show 0 ≤ n by omega) (Int.ediv_nonneg d0.1 (show 0 ≤ n by omega))
      exact q (d % n) _ xd m1 m2 (by omega)

theorem ok_askedd {f : Addr} {fd : FuncData} (B : Bt mg) (F : Fun K "_law_asked" "_law_asked" slaw_asked f fd) (claw_take : Cal P w K mg base 1 "_law_take" ["draws", "many"] spTake) : FnOk P w K mg base CX0 2 f fd ["draws", "one", "other"] spAskedD := by
  have nd := sclaw_asked.nd
  refine F.ok sclaw_asked (fun vs H Q E h => ?_) (fun cdv A outer s H vs Q E hr h => ?_)
  · obtain ⟨a, p, t, us, ws, rfl, _⟩ := h
    rfl
  · obtain ⟨a, p, t, us, ws, rfl, h0, RP, RQ, q⟩ := h
    have hu := hr.units
    have lu := RP.len
    have lw := RQ.len
    refine ⟨_, (pss_cons (ps_set (i := 3) nd rfl (.inl rfl) (pe_own claw_take (hr.mono (by decide)) (by rfl) (pa_cons (pv 0) (pa_cons pe_int pa_nil))))
      (pss_cons (ps_if (PW.pt (pw_and (pt_cmpR op_lt (pv 3) pe_int (nomark _)) (pw_and (pt_cmpR (op_neD hu) (pv 1) (pe_lst pa_nil) (nomark _)) (pw_and1 (pt_cmpR (op_neD hu) (pv 2) (pe_lst pa_nil) (nomark _)))))) (pss_cons (ps_set (i := 4) nd rfl (.inl rfl) (pe_lst pa_nil))
      (pss_cons (ps_for PassesOwn.never rfl (pi_range1 (by rfl) B.range_ (pa_cons pe_int pa_nil)) (pg_name (i := 5) nd rfl (.inl rfl)) (pss_cons (ps_set (i := 6) nd rfl (.inl rfl) (pe_ix ix_list (pv 1) (pe_op op_mod (pe_own claw_take (hr.mono (by decide)) (by rfl) (pa_cons (pv 0) (pa_cons pe_int pa_nil))) (pe_callB call_len_seq (by rfl) B.len_ (by decide +kernel) (pa_cons (pv 1) pa_nil))) (fun _ _ => rfl)))
      (pss_one (ps_expr (pe_bm PySem.F.plainAttrs_list PySem.F.slot_list_append PySem.F.type_list_append mt_append (pv 4) (pa_cons (pe_op op_add (pv 6) (pe_ix ix_list (pv 2) (pe_op op_mod (pe_own claw_take (hr.mono (by decide)) (by rfl) (pa_cons (pv 0) (pa_cons pe_int pa_nil))) (pe_callB call_len_seq (by rfl) B.len_ (by decide +kernel) (pa_cons (pv 2) pa_nil))) (fun _ _ => rfl))) pa_nil))))))
      (pss_one (ps_ret (pe_ix ix_list (pe_lst (pa_cons (pe_ix ix_list (pv 4) pe_int (fun _ _ => rfl)) (pa_cons (pe_op op_add (pe_ix ix_list (pv 4) pe_int (fun _ _ => rfl)) pe_int) (pa_cons (pe_op op_sub (pe_ix ix_list (pv 4) pe_int (fun _ _ => rfl)) pe_int) (pa_cons (pe_op op_fdivW (pe_callB (cr_sum rfl) (by rfl) B.sum_ (by decide +kernel) (pa_cons (pv 4) pa_nil)) pe_int) (pa_cons (pe_op op_add (pe_op op_fdivW (pe_callB (cr_sum rfl) (by rfl) B.sum_ (by decide +kernel) (pa_cons (pv 4) pa_nil)) pe_int) pe_int) (pa_cons (pe_op op_sub (pe_op op_fdivW (pe_callB (cr_sum rfl) (by rfl) B.sum_ (by decide +kernel) (pa_cons (pv 4) pa_nil)) pe_int) pe_int) pa_nil))))))) (pv 3) (fun _ _ => rfl)))))) pss_nil)
      (pss_cons (ps_set (i := 7) nd rfl (.inl rfl) (pe_op op_mulW (pe_callTy call_int_str (by rfl) B.int_ (by decide +kernel) (pa_cons (pe_op op_add_str pe_str (pe_op Sp.op_mul_str pe_str (pe_own claw_take (hr.mono (by decide)) (by rfl) (pa_cons (pv 0) (pa_cons pe_int pa_nil))))) pa_nil)) (pe_ix ix_list (pe_lst (pa_cons pe_int (pa_cons (pe_un un_neg pe_int) pa_nil))) (pe_own claw_take (hr.mono (by decide)) (by rfl) (pa_cons (pv 0) (pa_cons pe_int pa_nil))) (fun _ _ => rfl))))
      (pss_cons (ps_set (i := 7) nd rfl (.inl rfl) (pe_ix ix_list (pe_lst (pa_cons (pe_op op_pow pe_int pe_int) (pa_cons (pe_op op_sub pe_int (pe_op op_pow pe_int pe_int)) (pa_cons (pe_op op_mulW pe_int (pe_op op_pow pe_int pe_int)) (pa_cons (pe_op op_sub pe_int (pe_op op_mulW pe_int (pe_op op_pow pe_int pe_int))) (pa_cons (pe_op op_sub pe_int (pe_op op_mulW pe_int (pe_op op_pow pe_int pe_int))) (pa_cons (pv 7) (pa_cons (pv 7) pa_nil)))))))) (pe_own claw_take (hr.mono (by decide)) (by rfl) (pa_cons (pv 0) (pa_cons pe_int pa_nil))) (fun _ _ => rfl)))
      (pss_one (ps_ret (pe_ix ix_list (pe_lst (pa_cons (pv 7) (pa_cons (pe_op op_sub (pe_own claw_take (hr.mono (by decide)) (by rfl) (pa_cons (pv 0) (pa_cons pe_int pa_nil))) pe_int) pa_nil))) (pe_op op_mod (pv 3) pe_int) (fun _ _ => rfl)))))))), ?_⟩
    repeat walk_at "s"
    refine ⟨a, _, rfl, (by walk_at "hand"), (by walk_at "pos"), ?_⟩
    intro r1 H1 x1 ra1 rb1 rc1
    have h1 := x1.hand h0
    have RP1 := RP.upD x1
    have RQ1 := RQ.upD x1
    dsimp only [gName]
    refine if_split (fun H2 => Same H1 H2 ∧ r1 < 6 ∧ us ≠ [] ∧ ws ≠ []) (fun H2 => Same H1 H2) (fun KK kt kf => ?_) (fun H2 h2 => ?_) (fun H2 h2 => ?_)
    · repeat walk_at "s"
      by_cases c : r1 < 6
      · rw [decide_eq_true c]
        refine iteT ?_
        repeat walk_at "s"
        intro p2 np2
        generalize hg2 : upd H1 p2 _ = H2
        have s2 : Same H1 H2 := hg2 ▸ same_new np2
        have e2 := (congrFun hg2 p2).symm.trans upd_same
        clear hg2
        have n2 : p2 ≠ a := DrawAt.ne (by walk_at "hand") np2
        refine ⟨_, _, dp_ints ((RP1.upD (.same s2)).sq), dp_ints (ns := []) (SqL.new e2), shaped_ints _, shaped_ints _, ?_⟩
        rw [eqv_ints]
        refine ⟨_, rfl, ?_⟩
        by_cases zA : us = []
        · rw [decide_eq_true zA]
          exact kf H2 s2
        · rw [decide_eq_false zA]
          refine iteT ?_
          repeat walk_at "s"
          intro p3 np3
          generalize hg3 : upd H2 p3 _ = H3
          have s3 : Same H2 H3 := hg3 ▸ same_new np3
          have e3 := (congrFun hg3 p3).symm.trans upd_same
          clear hg3
          have n3 : p3 ≠ a := DrawAt.ne (by walk_at "hand") np3
          refine ⟨_, _, dp_ints ((RQ1.upD (.same (s2.trans s3))).sq), dp_ints (ns := []) (SqL.new e3), shaped_ints _, shaped_ints _, ?_⟩
          rw [eqv_ints]
          refine ⟨_, rfl, ?_⟩
          by_cases zB : ws = []
          · rw [decide_eq_true zB]
            exact kf H3 (s2.trans s3)
          · rw [decide_eq_false zB]
            exact kt H3 ⟨s2.trans s3, c, zA, zB⟩
      · rw [decide_eq_false c]
        exact kf H1 (.refl _)
    · obtain ⟨s2, c, zA, zB⟩ := h2
      have p0 := List.length_pos_iff.mpr zA
      have q0 := List.length_pos_iff.mpr zB
      have RP2 := RP1.upD (.same s2)
      have RQ2 := RQ1.upD (.same s2)
      have h2 := h1.same s2
      repeat walk_at "s"
      intro p3 np3
      generalize hg3 : upd H2 p3 _ = H3
      have s3 : Same H2 H3 := hg3 ▸ same_new np3
      have e3 := (congrFun hg3 p3).symm.trans upd_same
      clear hg3
      have n3 : p3 ≠ a := DrawAt.ne (by walk_at "hand") np3
      repeat walk_at "s"
      refine for_range (lo := 0) (n := 2) (fun i σ H' => ExtD a H2 H' ∧ ∃ (zs : List Int) (v5 v6 v7 : Option V), zs.length = i ∧ H' p3 = some (.lst (zs.map V.int)) ∧ σ = [some (.ref a), some (.ref p), some (.ref t), some (.int r1), some (.ref p3), v5, v6, v7]) ⟨.same s3, [], none, none, none, rfl, e3, rfl⟩ (fun i σ Hi hi w => ?_) (fun σ Hi w => ?_)
      · obtain ⟨xi, zs, v5, v6, v7, lz, ez, rfl⟩ := w
        have hi' := xi.hand h2
        have RPi := RP2.upD xi
        have RQi := RQ2.upD xi
        repeat walk_at "s"
        refine ⟨a, _, rfl, (by walk_at "hand"), (by walk_at "pos"), ?_⟩
        intro r4 H4 x4 ra4 rb4 rc4
        repeat walk_at "s"
        refine ⟨_, _, rfl, .inl (RPi.upD x4).sq, ?_⟩
        rw [List.length_map]
        repeat walk_at "s"
        have m0 := Int.emod_nonneg r4 (show (us.length : Int) ≠ 0 by omega)
        have m1 := Int.emod_lt_of_pos r4 (show (0 : Int) < (us.length : Int) by omega)
        obtain ⟨n, hn⟩ : ∃ n : Nat, r4 % (us.length : Int) = (n : Int) := ⟨(r4 % (us.length : Int)).toNat, by omega⟩
        obtain ⟨x, hx⟩ : ∃ x, us[n]? = some x := ⟨_, List.getElem?_eq_getElem (by omega)⟩
        refine ⟨_, _, _, .int x, rfl, rfl, (RPi.upD x4).sq, by show atI _ (r4 % (us.length : Int)) = _; rw [hn]; exact atI_nat (by rw [List.getElem?_map, hx]; rfl), ?_⟩
        have h4 := x4.hand hi'
        repeat walk_at "s"
        have ez4 := x4.keep _ _ ez n3
        refine ⟨.inl ⟨rfl, _, SqL.new ez4⟩, ?_⟩
        repeat walk_at "s"
        refine ⟨a, _, rfl, (by walk_at "hand"), (by walk_at "pos"), ?_⟩
        intro r5 H5 x5 ra5 rb5 rc5
        repeat walk_at "s"
        refine ⟨_, _, rfl, .inl ((RQi.upD x4).upD x5).sq, ?_⟩
        rw [List.length_map]
        repeat walk_at "s"
        have m2 := Int.emod_nonneg r5 (show (ws.length : Int) ≠ 0 by omega)
        have m3 := Int.emod_lt_of_pos r5 (show (0 : Int) < (ws.length : Int) by omega)
        obtain ⟨m, hm⟩ : ∃ n : Nat, r5 % (ws.length : Int) = (n : Int) := ⟨(r5 % (ws.length : Int)).toNat, by omega⟩
        obtain ⟨y, hy⟩ : ∃ x, ws[m]? = some x := ⟨_, List.getElem?_eq_getElem (by omega)⟩
        refine ⟨_, _, _, .int y, rfl, rfl, ((RQi.upD x4).upD x5).sq, by show atI _ (r5 % (ws.length : Int)) = _; rw [hm]; exact atI_nat (by rw [List.getElem?_map, hy]; rfl), ?_⟩
        refine ⟨_, _, rfl, rfl, ?_⟩
        refine ⟨p3, _, _, rfl, rfl, x5.keep _ _ ez4 n3, smallLt (by rw [List.length_map]; omega), ?_⟩
        refine ⟨ext_appD (ExtD.same (.refl _) |>.free n3 np3) n3 ((xi.trans x4).trans x5), zs ++ [x + y], _, _, _, by rw [List.length_append, lz]; rfl, by rw [upd_same, List.map_append]; rfl, rfl⟩
      · obtain ⟨xi, zs, v5, v6, v7, lz, ez, rfl⟩ := w
        have lz2 : zs.length = 2 := lz
        match zs, lz2, ez with
        | [z0, z1], _, ez =>
        have hi' := xi.hand h2
        repeat walk_at "s"
        refine ⟨p3, [z0, z1], rfl, SqL.new ez, ?_⟩
        repeat walk_at "s"
        refine ⟨p3, [z0, z1], rfl, SqL.new ez, ?_⟩
        repeat walk_at "s"
        refine ⟨p3, [z0, z1], rfl, SqL.new ez, ?_⟩
        repeat walk_at "s"
        intro p4 np4
        generalize hg4 : upd Hi p4 _ = H4
        have s4 : Same Hi H4 := hg4 ▸ same_new np4
        have e4 := (congrFun hg4 p4).symm.trans upd_same
        clear hg4
        have n4 : p4 ≠ a := DrawAt.ne (by walk_at "hand") np4
        obtain ⟨y, hy⟩ : ∃ y : Int, atI [V.int z0, V.int (z0 + 1), V.int (z0 - 1), V.int ([z0, z1].sum / 2), V.int ([z0, z1].sum / 2 + 1), V.int ([z0, z1].sum / 2 - 1)] r1 = some (.int y) := by
          obtain ⟨x, h1, h2⟩ := at_draw (xs := [V.int z0, V.int (z0 + 1), V.int (z0 - 1), V.int ([z0, z1].sum / 2), V.int ([z0, z1].sum / 2 + 1), V.int ([z0, z1].sum / 2 - 1)]) ra1 c
          simp only [List.mem_cons, List.not_mem_nil, or_false] at h2
          rcases h2 with rfl | rfl | rfl | rfl | rfl | rfl
          all_goals exact ⟨_, h1⟩
        refine ⟨_, rfl, ?_⟩
        refine ⟨_, _, _, _, rfl, rfl, SqL.new e4, hy, ?_⟩
        exact q y H4 (((x1.trans (.same s2)).trans xi).trans (.same s4))
    · have h2' := h1.same h2
      repeat walk_at "s"
      refine ⟨a, _, rfl, (by walk_at "hand"), (by walk_at "pos"), ?_⟩
      intro r3 H3 x3 ra3 rb3 rc3
      repeat walk_at "s"
      have rb3' : r3 < 41 := by omega
      obtain ⟨k1, k2, k3⟩ := noughts ra3 rb3'
      have tp := ten_pow ra3 rb3'
      refine ⟨noughts_mul ra3 rb3', ?_⟩
      refine ⟨_, _, rfl, rfl, k3, ?_⟩
      refine ⟨_, _, rfl, k1, k2, ?_⟩
      have h3 := x3.hand h2'
      repeat walk_at "s"
      intro p4 np4
      generalize hg4 : upd H3 p4 _ = H4
      have s4 : Same H3 H4 := hg4 ▸ same_new np4
      have e4 := (congrFun hg4 p4).symm.trans upd_same
      clear hg4
      have n4 : p4 ≠ a := DrawAt.ne (by walk_at "hand") np4
      repeat walk_at "s"
      refine ⟨a, _, rfl, (by walk_at "hand"), (by walk_at "pos"), ?_⟩
      intro r5 H5 x5 ra5 rb5 rc5
      obtain ⟨c, hc, c0, c1⟩ : ∃ y : Int, atI [V.int 1, V.int (-1)] r5 = some (.int y) ∧ -1 ≤ y ∧ y ≤ 1 := by
        obtain ⟨x, h1, h2⟩ := at_draw (xs := [V.int 1, V.int (-1)]) ra5 rb5
        simp only [List.mem_cons, List.not_mem_nil, or_false] at h2
        rcases h2 with rfl | rfl
        all_goals exact ⟨_, h1, by decide, by decide⟩
      refine ⟨_, _, _, _, rfl, rfl, SqL.new (x5.keep _ _ e4 n4), hc, ?_⟩
      refine ⟨_, _, rfl, rfl, mulW tp.1 tp.2 (by omega) (by omega), ?_⟩
      have h5 := (x5.hand (h3.same s4))
      repeat walk_at "s"
      intro p6 np6
      generalize hg6 : upd H5 p6 _ = H6
      have s6 : Same H5 H6 := hg6 ▸ same_new np6
      have e6 := (congrFun hg6 p6).symm.trans upd_same
      clear hg6
      have n6 : p6 ≠ a := DrawAt.ne (by walk_at "hand") np6
      repeat walk_at "s"
      refine ⟨a, _, rfl, (by walk_at "hand"), (by walk_at "pos"), ?_⟩
      intro r7 H7 x7 ra7 rb7 rc7
      obtain ⟨y, hy⟩ : ∃ y : Int, atI [V.int (10 ^ Int.toNat 40), V.int (0 - 10 ^ Int.toNat 40), V.int (2 * 10 ^ Int.toNat 15), V.int (0 - 2 * 10 ^ Int.toNat 15), V.int (1 - 2 * 10 ^ Int.toNat 15), V.int (10 ^ r3.toNat * c), V.int (10 ^ r3.toNat * c)] r7 = some (.int y) := by
        obtain ⟨x, h1, h2⟩ := at_draw (xs := [V.int (10 ^ Int.toNat 40), V.int (0 - 10 ^ Int.toNat 40), V.int (2 * 10 ^ Int.toNat 15), V.int (0 - 2 * 10 ^ Int.toNat 15), V.int (1 - 2 * 10 ^ Int.toNat 15), V.int (10 ^ r3.toNat * c), V.int (10 ^ r3.toNat * c)]) ra7 rb7
        simp only [List.mem_cons, List.not_mem_nil, or_false] at h2
        rcases h2 with rfl | rfl | rfl | rfl | rfl | rfl | rfl
        all_goals exact ⟨_, h1⟩
      refine ⟨_, _, _, _, rfl, rfl, SqL.new (x7.keep _ _ e6 n6), hy, ?_⟩
      have h7 := x7.hand (h5.same s6)
      repeat walk_at "s"
      refine ⟨a, _, rfl, (by walk_at "hand"), (by walk_at "pos"), ?_⟩
      intro r8 H8 x8 ra8 rb8 rc8
      repeat walk_at "s"
      intro p9 np9
      generalize hg9 : upd H8 p9 _ = H9
      have s9 : Same H8 H9 := hg9 ▸ same_new np9
      have e9 := (congrFun hg9 p9).symm.trans upd_same
      clear hg9
      have n9 : p9 ≠ a := DrawAt.ne (by walk_at "hand") np9
      obtain ⟨z, hz⟩ : ∃ z : Int, atI [V.int y, V.int (r8 - 500)] (r1 % 2) = some (.int z) := by
        obtain ⟨x, h1, h2⟩ := at_draw (xs := [V.int y, V.int (r8 - 500)]) (Int.emod_nonneg r1 (show (2 : Int) ≠ 0 by decide)) (show r1 % 2 < (2 : Int) from Int.emod_lt_of_pos r1 (by decide))
        simp only [List.mem_cons, List.not_mem_nil, or_false] at h2
        rcases h2 with rfl | rfl
        all_goals exact ⟨_, h1⟩
      repeat walk_at "s"
      refine ⟨_, _, _, _, rfl, rfl, SqL.new e9, hz, ?_⟩
      exact q z H9 ((((((((x1.trans (.same h2)).trans x3).trans (.same s4)).trans x5).trans (.same s6)).trans x7).trans x8).trans (.same s9))

theorem ok_belowl {f : Addr} {fd : FuncData} (B : Bt mg) (F : Fun K "_law_below" "_law_below" slaw_below f fd) : FnOk P w K mg base CX0 1 f fd ["one", "other", "number"] (spBelowL K) := by
  have nd := sclaw_below.nd
  refine F.ok sclaw_below (fun vs H Q E h => ?_) (fun cdv A outer s H vs Q E hr h => ?_)
  · obtain ⟨p, t, ns, ms, n, rfl, _⟩ := h
    rfl
  · obtain ⟨p, t, ns, ms, n, rfl, hS, hT, hsort, hsm, l1, q⟩ := h
    refine ⟨_, (pss_cons (ps_set (i := 3) nd rfl (.inl rfl) (pe_lst pa_nil))
      (pss_cons (ps_set (i := 4) nd rfl (.inl rfl) (pe_callB call_len_seq (by rfl) B.len_ (by decide +kernel) (pa_cons (pv 1) pa_nil)))
      (pss_cons (ps_for PassesOwn.never rfl (pi_list (pv 0)) (pg_name (i := 5) nd rfl (.inl rfl)) (pss_cons (ps_while PassesOwn.never (PW.pt (pw_and (pt_cmpR op_gt (pv 4) pe_int (nomark _)) (pw_and1 (pt_cmpR op_ge (pe_op op_add (pv 5) (pe_ix ix_list (pv 1) (pe_op op_sub (pv 4) pe_int) (fun _ _ => rfl))) (pv 2) (nomark _))))) (pss_one (ps_set (i := 4) nd rfl (.inl rfl) (pe_op op_sub (pv 4) pe_int))))
      (pss_one (ps_expr (pe_bm PySem.F.plainAttrs_list PySem.F.slot_list_append PySem.F.type_list_append mt_append (pv 3) (pa_cons (pv 4) pa_nil))))))
      (pss_one (ps_ret (pv 3)))))), ?_⟩
    repeat walk_at "s"
    intro p1 np1
    generalize hg1 : upd H p1 _ = H1
    have s1 : Same H H1 := hg1 ▸ same_new np1
    have e1 := (congrFun hg1 p1).symm.trans upd_same
    clear hg1
    repeat walk_at "s"
    refine ⟨_, _, rfl, .inl (s1.seq hT), ?_⟩
    rw [List.length_map]
    refine ⟨_, rfl, _, rfl, ⟨_, s1.seq hS⟩, ?_⟩
    refine for_list (K := K) (a := p) (xs := ns.map V.int) (fun i σ H' => Same H H' ∧ H' p1 = some (.lst (((belowL ns ms n).take i).map V.int)) ∧ ∃ (en : Nat) (v5 : Option V), σ = [some (.ref p), some (.ref t), some (.int n), some (.ref p1), some (.int (en : Int)), v5] ∧ en ≤ ms.length ∧ ∀ (j : Nat) (x : Int), i ≤ j → ns[j]? = some x → cntB ms (n - x) ≤ en)
      ⟨s1, e1, ms.length, none, rfl, Nat.le_refl _, fun j x _ _ => cntB_le _ _⟩ (fun i σ Hi _ w => w.1.seq hS) (fun i v σ Hi hv w => ?_) (fun σ Hi w => ?_)
    · obtain ⟨si, eL, en, v5, rfl, hen, hall⟩ := w
      obtain ⟨x, hx, rfl⟩ := int_at hv
      have li := (List.getElem?_eq_some_iff.mp hx).1
      have after : ∀ (j : Nat) (y : Int), i + 1 ≤ j → ns[j]? = some y → cntB ms (n - y) ≤ cntB ms (n - x) := fun j y hj hy => cntB_mono (by have := sorted_le hsort hx hy (by omega); omega)
      have app : ∀ e' : Nat, e' = cntB ms (n - x) → Same H (upd Hi p1 (.lst (((belowL ns ms n).take i).map V.int ++ [V.int (e' : Int)]))) ∧ (upd Hi p1 (.lst (((belowL ns ms n).take i).map V.int ++ [V.int (e' : Int)]))) p1 = some (.lst (((belowL ns ms n).take (i + 1)).map V.int)) := fun e' he =>
        ⟨same_app np1 si, by rw [upd_same, take_snoc (belowL_at hx), List.map_append, he]; rfl⟩
      have lb : ((belowL ns ms n).take i).length ≤ 1000 := by rw [List.length_take, belowL_len]; omega
      refine ⟨fun m σ H1 => ∃ e : Nat, σ = [some (.ref p), some (.ref t), some (.int n), some (.ref p1), some (.int (e : Int)), some (.int x)] ∧ H1 = Hi ∧ m = e ∧ cntB ms (n - x) ≤ e ∧ e ≤ ms.length,
        ⟨_, en, rfl, rfl, rfl, hall i x (Nat.le_refl _) hx, hen⟩, fun m σ H1 w => ?_⟩
      obtain ⟨e, rfl, rfl, rfl, h1, h2⟩ := w
      repeat walk_at "s"
      refine ite2 (fun z => ?_) (fun z => ?_)
      · have z1 : (0 : Int) < (m : Int) := of_decide_eq_true z
        obtain ⟨y, hy⟩ : ∃ y, ms[m - 1]? = some y := ⟨_, List.getElem?_eq_getElem (by omega)⟩
        have key := cntB_lt (n := n - x) hsm hy
        repeat walk_at "s"
        refine ⟨_, _, _, .int y, rfl, rfl, si.seq hT, ?_, ?_⟩
        · show atI _ ((m : Int) - 1) = _
          rw [show (m : Int) - 1 = ((m - 1 : Nat) : Int) from by omega]
          exact atI_nat (by rw [List.getElem?_map, hy]; rfl)
        repeat walk_at "s"
        refine ite2 (fun u => ?_) (fun u => ?_)
        · have u1 : n ≤ x + y := of_decide_eq_true u
          refine ⟨_, fun σ' H' k => k, ?_⟩
          repeat walk_at "s"
          refine ⟨m - 1, by omega, m - 1, ?_, rfl, rfl, ?_, by omega⟩
          · show [some (V.ref p), some (V.ref t), some (V.int n), some (V.ref p1), some (V.int ((m : Int) - 1)), some (V.int x)] = _
            rw [show (m : Int) - 1 = ((m - 1 : Nat) : Int) from by omega]
          · have : ¬ y < n - x := by omega
            have := fun z => this (key.mpr z)
            omega
        · have u1 : ¬ n ≤ x + y := fun k => u (decide_eq_true k)
          have e1 : m = cntB ms (n - x) := by
            have := key.mp (by omega)
            omega
          obtain ⟨sa, ea⟩ := app m e1
          repeat walk_at "s"
          refine ⟨.inl ⟨rfl, _, SqL.new eL⟩, ?_⟩
          repeat walk_at "s"
          refine ⟨p1, _, _, rfl, rfl, eL, smallLt (by rw [List.length_map]; omega), ?_⟩
          exact ⟨sa, ea, m, some (.int x), rfl, h2, fun j y hj hy => by rw [e1]; exact after j y hj hy⟩
      · have z1 : ¬ (0 : Int) < (m : Int) := fun k => z (decide_eq_true k)
        have e1 : m = cntB ms (n - x) := by omega
        obtain ⟨sa, ea⟩ := app m e1
        repeat walk_at "s"
        refine ⟨.inl ⟨rfl, _, SqL.new eL⟩, ?_⟩
        repeat walk_at "s"
        refine ⟨p1, _, _, rfl, rfl, eL, smallLt (by rw [List.length_map]; omega), ?_⟩
        exact ⟨sa, ea, m, some (.int x), rfl, h2, fun j y hj hy => by rw [e1]; exact after j y hj hy⟩
    · obtain ⟨si, eL, en, v5, rfl, hen, hall⟩ := w
      rw [List.length_map, ← belowL_len ns ms n, take_all] at eL
      repeat walk_at "s"
      exact q p1 Hi si np1 eL

theorem ok_is_whole {f : Addr} {fd : FuncData} (B : Bt mg) (F : Fun K "is_whole" "is_whole" sis_whole f fd) : FnOk P w K mg base CX0 1 f fd ["thing"] (spIsWhole K) := by
  have nd := scis_whole.nd
  refine F.ok scis_whole (fun vs H Q E h => ?_) (fun cdv A outer s H vs Q E hr h => ?_)
  · obtain ⟨x, rfl, _⟩ := h
    rfl
  · obtain ⟨x, rfl, h⟩ := h
    refine ⟨_, (pss_one (ps_ret (pe_and (pe_callB call_isi (by rfl) B.isinstance_ (by decide +kernel) (pa_cons (pv 0) (pa_cons (pe_bltn (v := .ty "int") (by rfl) B.int_ (by decide +kernel) rfl) pa_nil))) (pe_one (pe_not (pe_callB call_isi (by rfl) B.isinstance_ (by decide +kernel) (pa_cons (pv 0) (pa_cons (pe_bltn (v := .ty "bool") (by rfl) B.bool_ (by decide +kernel) rfl) pa_nil)))))))), ?_⟩
    walk_at "s"
    rcases h with ⟨⟨n, rfl⟩, q⟩ | ⟨⟨T, hT, ty⟩, q⟩
    · refine ⟨_, _, _, _, true, rfl, .ty "int", .base (.int n), kit_ty (by decide +kernel), ?_⟩
      repeat walk_at "s"
      refine ⟨_, _, _, _, false, rfl, .ty "bool", .base (.int n), kit_ty (by decide +kernel), ?_⟩
      exact ⟨_, rfl, q⟩
    · simp only [kinds, List.mem_cons, List.not_mem_nil, or_false] at hT
      rcases hT with rfl | rfl | rfl | rfl | rfl | rfl
      · refine ⟨_, _, _, _, true, rfl, .ty "int", ty, kit_ty (by decide +kernel), ?_⟩
        repeat walk_at "s"
        refine ⟨_, _, _, _, true, rfl, .ty "bool", ty, kit_ty (by decide +kernel), ?_⟩
        exact ⟨_, rfl, q⟩
      all_goals
        refine ⟨_, _, _, _, false, rfl, .ty "int", ty, kit_ty (by decide +kernel), ?_⟩
        exact ⟨_, rfl, q⟩

theorem ok_shows {f : Addr} {fd : FuncData} (B : Bt mg) (F : Fun K "shows" "shows" sshows f fd) (cis_whole : Cal P w K mg base 1 "is_whole" ["thing"] (spIsWhole K)) : FnOk P w K mg base CX0 2 f fd ["thing", "row", "number"] (spShows K) := by
  have nd := scshows.nd
  refine F.ok scshows (fun vs H Q E h => ?_) (fun cdv A outer s H vs Q E hr h => ?_)
  · obtain ⟨x, p, ms, n, rfl, _⟩ := h
    rfl
  · obtain ⟨x, p, ms, n, rfl, hS, hs, h⟩ := h
    have le := cntB_le ms n
    refine ⟨_, (pss_cons (ps_if (PW.pt (pw_or (pt_not (pt_val (pe_own cis_whole (hr.mono (by decide)) (by rfl) (pa_cons (pv 0) pa_nil)))) (pw_or1 (pt_not (pt_chain op_le op_le pe_int (pv 0) (pe_callB call_len_seq (by rfl) B.len_ (by decide +kernel) (pa_cons (pv 1) pa_nil))))))) (pss_one (ps_ret pe_bl)) pss_nil)
      (pss_cons (ps_if (PW.pt (pw_and (pt_cmpR op_gt (pv 0) pe_int (nomark _)) (pw_and1 (pt_cmpR op_ge (pe_ix ix_list (pv 1) (pe_op op_sub (pv 0) pe_int) (fun _ _ => rfl)) (pv 2) (nomark _))))) (pss_one (ps_ret pe_bl)) pss_nil)
      (pss_one (ps_ret (pe_or (pe_cmpR op_eq (pv 0) (pe_callB call_len_seq (by rfl) B.len_ (by decide +kernel) (pa_cons (pv 1) pa_nil)) (nomark _)) (pe_one (pe_cmpR op_ge (pe_ix ix_list (pv 1) (pv 0) (fun _ _ => rfl)) (pv 2) (nomark _)))))))), ?_⟩
    repeat walk_at "s"
    rcases h with ⟨v, rfl, q⟩ | ⟨no, q⟩
    · refine .inl ⟨⟨v, rfl⟩, ?_⟩
      repeat walk_at "s"
      by_cases c0 : 0 ≤ v
      · rw [decide_eq_true c0]
        repeat walk_at "s"
        refine ⟨_, _, rfl, .inl hS, ?_⟩
        rw [List.length_map]
        repeat walk_at "s"
        by_cases c1 : v ≤ (ms.length : Int)
        · rw [decide_eq_true c1]
          repeat walk_at "s"
          obtain ⟨k, rfl⟩ : ∃ k : Nat, v = (k : Int) := ⟨v.toNat, by omega⟩
          by_cases c2 : (0 : Int) < (k : Int)
          · rw [decide_eq_true c2]
            refine iteT ?_
            obtain ⟨y, hy⟩ : ∃ y, ms[k - 1]? = some y := ⟨_, List.getElem?_eq_getElem (by omega)⟩
            repeat walk_at "s"
            refine ⟨_, _, _, .int y, rfl, rfl, hS, ?_, ?_⟩
            · show atI _ ((k : Int) - 1) = _
              rw [show (k : Int) - 1 = ((k - 1 : Nat) : Int) from by omega]
              exact atI_nat (by rw [List.getElem?_map, hy]; rfl)
            repeat walk_at "s"
            by_cases c3 : n ≤ y
            · rw [decide_eq_true c3]
              repeat walk_at "s"
              have := shows_no hs hy c3
              rw [decide_eq_false (show ¬ (k : Int) = ((cntB ms n : Nat) : Int) by omega)] at q
              exact q
            · rw [decide_eq_false c3]
              refine iteF ?_
              obtain ⟨g1, g2⟩ := shows_at (n := n) hs (k := k) (fun j z hj hz => by rw [show j = k - 1 from by omega, hy] at hz; cases hz; omega) (by omega)
              repeat walk_at "s"
              refine ⟨_, _, rfl, .inl hS, ?_⟩
              rw [List.length_map]
              refine ⟨rfl, _, rfl, ?_⟩
              by_cases c4 : k = ms.length
              · rw [decide_eq_true (congrArg V.int (show (k : Int) = (ms.length : Int) by omega))]
                refine iteT ?_
                rw [decide_eq_true (show (k : Int) = ((cntB ms n : Nat) : Int) by have := g1 c4; omega)] at q
                exact q
              · rw [decide_eq_false (fun e => c4 (by have := V.int.inj e; omega))]
                refine iteF ?_
                obtain ⟨z, hz⟩ : ∃ y, ms[k]? = some y := ⟨_, List.getElem?_eq_getElem (by omega)⟩
                repeat walk_at "s"
                refine ⟨_, _, _, .int z, rfl, rfl, hS, atI_nat (by rw [List.getElem?_map, hz]; rfl), ?_⟩
                repeat walk_at "s"
                have e := g2 z hz
                rw [show decide ((k : Int) = ((cntB ms n : Nat) : Int)) = decide (n ≤ z) from decide_eq_decide.mpr (by omega)] at q
                exact q
          · rw [decide_eq_false c2]
            refine iteF (iteF ?_)
            obtain ⟨g1, g2⟩ := shows_at (n := n) hs (k := k) (fun j z hj hz => by omega) (by omega)
            repeat walk_at "s"
            refine ⟨_, _, rfl, .inl hS, ?_⟩
            rw [List.length_map]
            refine ⟨rfl, _, rfl, ?_⟩
            by_cases c4 : k = ms.length
            · rw [decide_eq_true (congrArg V.int (show (k : Int) = (ms.length : Int) by omega))]
              refine iteT ?_
              rw [decide_eq_true (show (k : Int) = ((cntB ms n : Nat) : Int) by have := g1 c4; omega)] at q
              exact q
            · rw [decide_eq_false (fun e => c4 (by have := V.int.inj e; omega))]
              refine iteF ?_
              obtain ⟨z, hz⟩ : ∃ y, ms[k]? = some y := ⟨_, List.getElem?_eq_getElem (by omega)⟩
              repeat walk_at "s"
              refine ⟨_, _, _, .int z, rfl, rfl, hS, atI_nat (by rw [List.getElem?_map, hz]; rfl), ?_⟩
              repeat walk_at "s"
              have e := g2 z hz
              rw [show decide ((k : Int) = ((cntB ms n : Nat) : Int)) = decide (n ≤ z) from decide_eq_decide.mpr (by omega)] at q
              exact q
        · rw [decide_eq_false c1]
          repeat walk_at "s"
          rw [decide_eq_false (show ¬ v = ((cntB ms n : Nat) : Int) by omega)] at q
          exact q
      · rw [decide_eq_false c0]
        refine iteF ?_
        repeat walk_at "s"
        rw [decide_eq_false (show ¬ v = ((cntB ms n : Nat) : Int) by omega)] at q
        exact q
    · refine .inr ⟨no, ?_⟩
      repeat walk_at "s"
      exact q

theorem ok_by_paper {f : Addr} {fd : FuncData} (B : Bt mg) (F : Fun K "by_paper" "by_paper" sby_paper f fd) (zZ : mg "zip" = none) (cshows : Cal P w K mg base 2 "shows" ["thing", "row", "number"] (spShows K)) : FnOk P w K mg base CX0 3 f fd ["one", "other", "number", "thing"] (spByPaper K) := by
  have nd := scby_paper.nd
  refine F.ok scby_paper (fun vs H Q E h => ?_) (fun cdv A outer s H vs Q E hr h => ?_)
  · obtain ⟨p, t, ns, ms, n, x, rfl, _⟩ := h
    rfl
  · obtain ⟨p, u, ns, ms, n, x, rfl, hS, hT, sm, l1, h⟩ := h
    have hu := hr.units
    refine ⟨_, (pss_cons (ps_if (PW.pt (pw_or (pt_not (pt_val (pe_callB call_isi (by rfl) B.isinstance_ (by decide +kernel) (pa_cons (pv 3) (pa_cons (pe_bltn (v := .ty "list") (by rfl) B.list_ (by decide +kernel) rfl) pa_nil))))) (pw_or1 (pt_cmpR op_ne (pe_callB call_len_seq (by rfl) B.len_ (by decide +kernel) (pa_cons (pv 3) pa_nil)) (pe_callB call_len_seq (by rfl) B.len_ (by decide +kernel) (pa_cons (pv 0) pa_nil)) (nomark _))))) (pss_one (ps_ret pe_non)) pss_nil)
      (pss_cons (ps_for PassesOwn.never rfl (pi_zip (by rfl) zZ (pa_cons (pv 0) (pa_cons (pv 3) pa_nil))) (pg_tup rfl (pgs_cons (pg_name (i := 4) nd rfl (.inl rfl)) (pgs_cons (pg_name (i := 5) nd rfl (.inl rfl)) pgs_nil))) (pss_one (ps_if (pt_not (pt_val (pe_own cshows (hr.mono (by decide)) (by rfl) (pa_cons (pv 5) (pa_cons (pv 1) (pa_cons (pe_op op_sub (pv 2) (pv 4)) pa_nil)))))) (pss_one (ps_ret pe_non)) pss_nil)))
      (pss_one (ps_ret (pe_callB (cr_sum rfl) (by rfl) B.sum_ (by decide +kernel) (pa_cons (pv 3) pa_nil)))))), ?_⟩
    repeat walk_at "s"
    rcases h with ⟨t, xs, rfl, hX, hk, q⟩ | ⟨T, hT', ty, q⟩
    · refine ⟨_, _, _, _, true, rfl, .ty "list", tyList hX, kit_ty (by decide +kernel), ?_⟩
      repeat walk_at "s"
      refine ⟨_, _, rfl, .inl hX, ?_⟩
      repeat walk_at "s"
      refine ⟨_, _, rfl, .inl hS, ?_⟩
      rw [List.length_map]
      refine ⟨rfl, ?_⟩
      refine ⟨_, rfl, ?_⟩
      by_cases c : xs.length = ns.length
      · rw [decide_eq_true (congrArg V.int (show (xs.length : Int) = (ns.length : Int) by omega))]
        repeat walk_at "s"
        refine ⟨p, t, _, _, rfl, hS, hX, ?_⟩
        refine RZ.for_zipL (K := K) (a := p) (b := t) (xs := ns.map V.int) (ys := xs) (by rw [List.length_map, c]) (fun i σ H' => Same H H' ∧ (∃ v4 v5 : Option V, σ = [some (.ref p), some (.ref u), some (.int n), some (.ref t), v4, v5]) ∧ xs.take i = ((belowL ns ms n).take i).map V.int) ⟨.refl _, ⟨none, none, rfl⟩, by rw [List.take_zero, List.take_zero]; rfl⟩ (fun i σ Hi w => ⟨w.1.seq hS, w.1.seq hX⟩) (fun i v1 v2 TT σ Hi h1 h2 w nT => ?_) (fun σ Hi w => ?_)
        · obtain ⟨si, ⟨v4, v5, rfl⟩, eq⟩ := w
          obtain ⟨z, hz, rfl⟩ := int_at h1
          have sT : Same Hi (upd Hi TT (.tup [.int z, v2])) := same_new nT
          refine ⟨TT, _, rfl, .inl (.inl upd_same), rfl, _, _, rfl, _, _, rfl, rfl, ?_⟩
          generalize upd Hi TT _ = H2 at sT ⊢
          have S2 := si.trans sT
          have kn := (hk v2 (List.mem_of_getElem? h2)).up S2
          repeat walk_at "s"
          refine ⟨v2, u, ms, n - z, rfl, S2.seq hT, sm, ?_⟩
          rcases kn with ⟨v, rfl⟩ | no
          · refine .inl ⟨v, rfl, ?_⟩
            by_cases g : v = ((cntB ms (n - z) : Nat) : Int)
            · rw [decide_eq_true g]
              refine ⟨_, rfl, ?_⟩
              refine iteF ?_
              refine ⟨S2, ⟨_, _, rfl⟩, ?_⟩
              rw [take_snoc h2, eq, take_snoc (belowL_at hz), List.map_append, g]
              rfl
            · rw [decide_eq_false g]
              refine ⟨_, rfl, ?_⟩
              refine iteT ?_
              repeat walk_at "s"
              have := q false H2 ⟨(fun k => nomatch k), fun e => ?_⟩ S2
              · exact this
              · rw [e, List.getElem?_map, belowL_at hz] at h2
                exact absurd (V.int.inj (Option.some.inj h2)).symm g
          · refine .inr ⟨no, ?_⟩
            refine ⟨_, rfl, ?_⟩
            refine iteT ?_
            repeat walk_at "s"
            have := q false H2 ⟨(fun k => nomatch k), fun e => ?_⟩ S2
            · exact this
            · rw [e, List.getElem?_map, belowL_at hz] at h2
              exact absurd (Option.some.inj h2).symm (no.ne _)
        · obtain ⟨si, ⟨v4, v5, rfl⟩, eq⟩ := w
          rw [List.length_map, ← c, take_all, c, ← belowL_len ns ms n, take_all] at eq
          repeat walk_at "s"
          have hX2 : SqL K Hi t ((belowL ns ms n).map V.int) := by rw [← eq]; exact si.seq hX
          refine ⟨t, _, rfl, hX2, ?_⟩
          rw [belowL_sum]
          exact q true Hi ⟨fun _ => eq, fun _ => rfl⟩ si
      · rw [decide_eq_false (fun e => c (by have := V.int.inj e; omega))]
        repeat walk_at "s"
        have := q false H ⟨(fun k => nomatch k), fun e => ?_⟩ (.refl _)
        · exact this
        · rw [e, List.length_map, belowL_len] at c
          exact absurd rfl c
    · simp only [List.mem_cons, List.not_mem_nil, or_false] at hT'
      rcases hT' with rfl | rfl | rfl | rfl | rfl | rfl
      all_goals
        refine ⟨_, _, _, _, false, rfl, .ty "list", ty, kit_ty (by decide +kernel), ?_⟩
        repeat walk_at "s"
        exact q

theorem ok_whole46 {f : Addr} {fd : FuncData} (B : Bt mg) (F : Fun K "_law_whole" "_law_whole" slaw_whole f fd) : FnOk P w K mg base CX0 1 f fd ["thing"] (spIsWhole K) := by
  have nd := sclaw_whole.nd
  refine F.ok sclaw_whole (fun vs H Q E h => ?_) (fun cdv A outer s H vs Q E hr h => ?_)
  · obtain ⟨x, rfl, _⟩ := h
    rfl
  · obtain ⟨x, rfl, h⟩ := h
    refine ⟨_, (pss_one (ps_ret (pe_and (pe_callB call_isi (by rfl) B.isinstance_ (by decide +kernel) (pa_cons (pv 0) (pa_cons (pe_bltn (v := .ty "int") (by rfl) B.int_ (by decide +kernel) rfl) pa_nil))) (pe_one (pe_not (pe_callB call_isi (by rfl) B.isinstance_ (by decide +kernel) (pa_cons (pv 0) (pa_cons (pe_bltn (v := .ty "bool") (by rfl) B.bool_ (by decide +kernel) rfl) pa_nil)))))))), ?_⟩
    walk_at "s"
    rcases h with ⟨⟨n, rfl⟩, q⟩ | ⟨⟨T, hT, ty⟩, q⟩
    · refine ⟨_, _, _, _, true, rfl, .ty "int", .base (.int n), kit_ty (by decide +kernel), ?_⟩
      repeat walk_at "s"
      refine ⟨_, _, _, _, false, rfl, .ty "bool", .base (.int n), kit_ty (by decide +kernel), ?_⟩
      exact ⟨_, rfl, q⟩
    · simp only [kinds, List.mem_cons, List.not_mem_nil, or_false] at hT
      rcases hT with rfl | rfl | rfl | rfl | rfl | rfl
      · refine ⟨_, _, _, _, true, rfl, .ty "int", ty, kit_ty (by decide +kernel), ?_⟩
        repeat walk_at "s"
        refine ⟨_, _, _, _, true, rfl, .ty "bool", ty, kit_ty (by decide +kernel), ?_⟩
        exact ⟨_, rfl, q⟩
      all_goals
        refine ⟨_, _, _, _, false, rfl, .ty "int", ty, kit_ty (by decide +kernel), ?_⟩
        exact ⟨_, rfl, q⟩

theorem ok_deep46 {f : Addr} {fd : FuncData} (B : Bt mg) (F : Fun K "_law_deep" "_law_deep" slaw_deep f fd) : FnOk P w K mg base CX0 1 f fd ["many"] Rq.spDeep46 := by
  have nd := sclaw_deep.nd
  refine F.ok sclaw_deep (fun vs H Q E h => ?_) (fun cdv A outer s H vs Q E hr h => ?_)
  · obtain ⟨k, rfl, _⟩ := h
    rfl
  · obtain ⟨k, rfl, k0, hk, q⟩ := h
    refine ⟨_, (pss_cons (ps_set (i := 1) nd rfl (.inl rfl) (pe_lst pa_nil))
      (pss_cons (ps_for PassesOwn.never rfl (pi_range1 (by rfl) B.range_ (pa_cons (pv 0) pa_nil)) (pg_name (i := 2) nd rfl (.inl rfl)) (pss_one (ps_set (i := 1) nd rfl (.inl rfl) (pe_lst (pa_cons (pv 1) pa_nil)))))
      (pss_one (ps_ret (pv 1))))), ?_⟩
    repeat walk_at "s"
    intro p1 np1
    generalize hg1 : upd H p1 _ = H1
    have s1 : Same H H1 := hg1 ▸ same_new np1
    have e1 := (congrFun hg1 p1).symm.trans upd_same
    clear hg1
    refine ⟨_, rfl, ?_⟩
    refine ⟨(k : Int), rfl, by omega, by omega, ?_⟩
    refine for_range (lo := 0) (n := k) (fun i σ H' => Same H H' ∧ ∃ (t : Addr) (l : List V) (v2 : Option V), σ = [some (.int (k : Int)), some (.ref t), v2] ∧ H t = none ∧ H' t = some (.lst l) ∧ (0 < i → ∃ (t' : Addr) (zs : List V), l = [.ref t'] ∧ H' t' = some (.lst zs))) ⟨s1, p1, [], none, rfl, np1, e1, fun h => absurd h (by decide)⟩ (fun i σ Hi hi w => ?_) (fun σ Hd w => ?_)
    · obtain ⟨si, t, l, v2, rfl, nt, et, _⟩ := w
      repeat walk_at "s"
      intro p2 np2
      generalize hg2 : upd Hi p2 _ = H2
      have s2 : Same Hi H2 := hg2 ▸ same_new np2
      have e2 := (congrFun hg2 p2).symm.trans upd_same
      clear hg2
      exact ⟨si.trans s2, p2, _, _, rfl, si.free np2, e2, fun _ => ⟨t, l, rfl, s2 _ _ et⟩⟩
    · obtain ⟨sd, t, l, v2, rfl, nt, et, more⟩ := w
      obtain ⟨t', zs, rfl, et'⟩ := more k0
      exact ⟨_, rfl, q t t' zs Hd sd nt et et'⟩

theorem ok_right46 {f : Addr} {fd : FuncData} (B : Bt mg) (F : Fun K "_law_right" "_law_right" slaw_right f fd) (claw_whole : Cal P w K mg base 1 "_law_whole" ["thing"] (spIsWhole K)) (cby_paper : Cal P w K mg base 3 "by_paper" ["one", "other", "number", "thing"] (spByPaper K)) : Gd.FnG P w K mg base 4 f fd ["one", "other", "number", "due", "thing"] (Rq.spRight46 K) := by
  have nd := sclaw_right.nd
  refine Gd.okG F sclaw_right (fun vs H Q E h => ?_) (fun cdv A outer s H vs Q E ug hr h => ?_)
  · obtain ⟨p, t, d, ns, ms, n, x, rfl, _⟩ := h
    rfl
  · obtain ⟨p, t, d, ns, ms, n, x, rfl, ep, et, sp, st, l1, l2, ed, tq, q⟩ := h
    have hu := hr.units
    obtain ⟨dd, td⟩ := tq
    refine ⟨_, (Evl.pss_cut (ps_set (i := 6) nd rfl (.inl rfl) (pe_and (pe_callB call_isi (by rfl) B.isinstance_ (by decide +kernel) (pa_cons (pv 4) (pa_cons (pe_bltn (v := .ty "list") (by rfl) B.list_ (by decide +kernel) rfl) pa_nil))) (pe_and (pe_cmpR (Rq.op_eqRow hu) (pv 4) (pv 3) (nomark _)) (pe_one (pe_cmpR (Rq.op_eqNil hu) (pe_lc (own := [("many", 5)]) (by rfl) nd (pi_list (pv 4)) (blkOk_by (own := [("many", 5)]) (N := ["one", "other", "number", "due", "thing", "many", "good", "handed", "kept", "found"]) (sc := defScope slaw_right) (by decide +kernel)) (fun _ _ _ _ _ => (pg_name (i := 5) nd rfl (.inl rfl))) (fun _ _ _ _ _ => (pts_one (pt_not (pt_val (pe_own claw_whole (hr.mono (by decide)) (by rfl) (pa_cons (pv 5) pa_nil)))))) (fun _ _ _ _ _ => pe_int)) (pe_lst pa_nil) (nomark _))))))
      (pss_cons (ps_set (i := 7) nd rfl (.inl rfl) (pe_lst (pa_cons (pe_callTy call_list_of (by rfl) B.list_ (by decide +kernel) (pa_cons (pv 0) pa_nil)) (pa_cons (pe_callTy call_list_of (by rfl) B.list_ (by decide +kernel) (pa_cons (pv 1) pa_nil)) pa_nil))))
      (pss_cons (ps_set (i := 8) nd rfl (.inl rfl) (pe_callB (Rq.call_reprQ ug hr) (by rfl) B.repr_ (by decide +kernel) (pa_cons (pv 4) pa_nil)))
      (pss_cons (ps_set (i := 9) nd rfl (.inl rfl) (pe_own cby_paper (hr.mono (by decide)) (by rfl) (pa_cons (pe_ix ix_list (pv 7) pe_int (fun _ _ => rfl)) (pa_cons (pe_ix ix_list (pv 7) pe_int (fun _ _ => rfl)) (pa_cons (pv 2) (pa_cons (pv 4) pa_nil))))))
      (pss_cons (ps_if (PW.pt (pw_or (pt_cmpR (op_neD hu) (pv 7) (pe_lst (pa_cons (pv 0) (pa_cons (pv 1) pa_nil))) (nomark _)) (pw_or1 (pt_cmpR op_ne (pe_callB (Rq.call_reprQ ug hr) (by rfl) B.repr_ (by decide +kernel) (pa_cons (pv 4) pa_nil)) (pv 8) (nomark _))))) (pss_one (ps_ret pe_bl)) pss_nil)
      (pss_one (ps_ret (pe_ifExp (pt_val (pv 6)) (pe_and (pe_own claw_whole (hr.mono (by decide)) (by rfl) (pa_cons (pv 9) pa_nil)) (pe_one (pe_cmpR op_eq (pv 9) (pe_callB (cr_sum rfl) (by rfl) B.sum_ (by decide +kernel) (pa_cons (pv 3) pa_nil)) (nomark _)))) (pe_cmpR op_isN (pv 9) pe_non (nomark _)))))))))), ?_⟩
    -- good
    refine ⟨fun σ' H' => ∃ b : Bool, Same H H' ∧ (b = true ↔ ∃ p' : Addr, x = .ref p' ∧ H p' = some (.lst ((belowL ns ms n).map V.int))) ∧ σ' = [some (.ref p), some (.ref t), some (.int n), some (.ref d), some x, none, some (.bl b), none, none, none], ?_, ?_⟩
    · obtain ⟨dt, inf, its⟩ := td H (Same.refl _)
      repeat walk_at "s"
      rcases inf.two with ⟨p', xs, rfl, e, hk⟩ | ⟨T, hT, ty, nli⟩
      · have hS : SqL K H p' xs := SqL.new e
        obtain ⟨lx, ds, els⟩ := its p' xs rfl e
        refine ⟨_, _, _, _, true, rfl, .ty "list", tyList hS, kit_ty (by decide +kernel), ?_⟩
        repeat walk_at "s"
        refine ⟨p', d, xs, ds, belowL ns ms n, rfl, rfl, hS, els, SqL.new ed, fun c hc => ?_⟩
        repeat walk_at "s"
        cases c with
        | false =>
          repeat walk_at "s"
          refine ⟨false, Same.refl _, ⟨fun h => (by cases h), fun h => ?_⟩, rfl⟩
          obtain ⟨p2, h1, h2⟩ := h
          cases h1
          rw [e] at h2
          cases h2
          have := hc _ rfl
          rw [decide_eq_true rfl] at this
          cases this
        | true =>
          repeat walk_at "s"
          refine ⟨⟨_, hS⟩, ?_⟩
          intro D nD
          refine lc_list (K := K) (a := p') (xs := xs) (fun j H' => Same H H' ∧ ∃ ys : List V, H' D = some (.lst ys) ∧ ys.length ≤ j ∧ (ys = [] ↔ ∀ y ∈ xs.take j, ∃ i, y = V.int i)) ⟨same_new nD, [], upd_same, Nat.le_refl _, fun _ y hy => by simp at hy, fun _ => rfl⟩ (fun j Hj _ w => w.1.seq hS) (fun j y Hj hy w => ?_) (fun H5 w => ?_)
          · obtain ⟨w1, ys, e1, ly, w2⟩ := w
            have jl := (List.getElem?_eq_some_iff.mp hy).1
            refine ⟨rfl, ?_⟩
            repeat walk_at "s"
            rcases hk y (List.mem_of_getElem? hy) with ⟨i, rfl⟩ | hno
            · refine .inl ⟨⟨i, rfl⟩, ?_⟩
              repeat walk_at "s"
              refine ⟨ys, e1, by omega, ?_⟩
              rw [take_snoc hy]
              refine ⟨fun h y hy => ?_, fun h => w2.mpr fun y hy => h y (List.mem_append_left _ hy)⟩
              rcases List.mem_append.mp hy with hy | hy
              · exact w2.mp h y hy
              · exact ⟨i, List.mem_singleton.mp hy⟩
            · refine .inr ⟨hno.up w1, ?_⟩
              repeat walk_at "s"
              refine ⟨ys, e1, smallLt (by omega), same_app nD w1, ys ++ [.int 1], upd_same, by rw [List.length_append]; simp; omega, fun h => absurd h (by simp), fun h => ?_⟩
              rw [take_snoc hy] at h
              obtain ⟨i, hi⟩ := h y (List.mem_append_right _ (List.mem_singleton.mpr rfl))
              exact absurd hi (hno.ne i)
          obtain ⟨s5, ys, e5, ly, w5⟩ := w
          rw [take_all] at w5
          repeat walk_at "s"
          intro p6 np6
          generalize hg6 : upd H5 p6 _ = H6
          have s6 : Same H5 H6 := hg6 ▸ same_new np6
          have e6 := (congrFun hg6 p6).symm.trans upd_same
          clear hg6
          refine ⟨D, p6, ys, rfl, rfl, SqL.new (s6 _ _ e5), SqL.new e6, ?_⟩
          repeat walk_at "s"
          have sj := s5.trans s6
          by_cases z : ys = []
          · subst z
            obtain ⟨zs, rfl⟩ := Rq.nums_of (w5.mp rfl)
            have hz : zs = belowL ns ms n := of_decide_eq_true (hc zs rfl).symm
            exact ⟨true, sj, ⟨fun _ => ⟨p', rfl, by rw [e, hz]⟩, fun _ => rfl⟩, rfl⟩
          · have zf : ys.isEmpty = false := by
              cases ys with
              | nil => exact absurd rfl z
              | cons => rfl
            rw [zf]
            refine ⟨false, sj, ⟨fun h => (by cases h), fun h => ?_⟩, rfl⟩
            obtain ⟨p2, h1, h2⟩ := h
            cases h1
            rw [e] at h2
            cases h2
            refine absurd (w5.mpr fun y hy => ?_) z
            obtain ⟨m, _, rfl⟩ := List.mem_map.mp hy
            exact ⟨m, rfl⟩
      · have no : ∀ b : Bool, b = false → (b = true ↔ ∃ p' : Addr, x = .ref p' ∧ H p' = some (.lst ((belowL ns ms n).map V.int))) := fun b hb => by
          subst hb
          refine ⟨fun h => (by cases h), fun h => ?_⟩
          obtain ⟨p2, h1, h2⟩ := h
          exact absurd h2 (nli _ _ h1)
        simp only [List.mem_cons, List.not_mem_nil, or_false] at hT
        rcases hT with rfl | rfl | rfl | rfl | rfl | rfl
        all_goals
          refine ⟨_, _, _, _, false, rfl, .ty "list", ty, kit_ty (by decide +kernel), ?_⟩
          repeat walk_at "s"
          exact ⟨false, Same.refl _, no false rfl, rfl⟩
    rintro σ' H1 ⟨b, s1, hb, rfl⟩
    repeat walk_at "s"
    refine ⟨_, _, rfl, .inl (SqL.new (s1 _ _ ep)), ?_⟩
    intro p2 np2
    generalize hg2 : upd H1 p2 _ = H2
    have s2 : Same H1 H2 := hg2 ▸ same_new np2
    have e2 := (congrFun hg2 p2).symm.trans upd_same
    clear hg2
    repeat walk_at "s"
    refine ⟨_, _, rfl, .inl (SqL.new (s2 _ _ (s1 _ _ et))), ?_⟩
    intro p3 np3
    generalize hg3 : upd H2 p3 _ = H3
    have s3 : Same H2 H3 := hg3 ▸ same_new np3
    have e3 := (congrFun hg3 p3).symm.trans upd_same
    clear hg3
    repeat walk_at "s"
    intro p4 np4
    generalize hg4 : upd H3 p4 _ = H4
    have s4 : Same H3 H4 := hg4 ▸ same_new np4
    have e4 := (congrFun hg4 p4).symm.trans upd_same
    clear hg4
    have S4 : Same H H4 := s1.trans (s2.trans (s3.trans s4))
    have E2 := s4 _ _ (s3 _ _ e2)
    have E3 := s4 _ _ e3
    obtain ⟨dt4, inf4, its4⟩ := td H4 S4
    repeat walk_at "s"
    refine ⟨x, dd, rfl, dt4, ?_⟩
    repeat walk_at "s"
    -- what by_paper tells
    refine ⟨p2, p3, ns, ms, n, x, rfl, SqL.new E2, SqL.new E3, st, by omega, ?_⟩
    obtain ⟨_, inf0, _⟩ := td H (Same.refl _)
    rcases inf0.two with ⟨p', xs, rfl, e, hk⟩ | ⟨T, hT, ty, nli⟩
    · refine .inl ⟨p', xs, rfl, SqL.new (S4 _ _ e), fun y hy => (hk y hy).up S4, fun b2 H5 hb2 s5 => ?_⟩
      obtain rfl : b2 = b := by
        have h1 : b2 = true ↔ b = true := by
          rw [hb2, hb]
          refine ⟨fun h => ⟨p', rfl, by rw [← h]; exact e⟩, fun h => ?_⟩
          obtain ⟨p2', h1, h2⟩ := h
          cases h1
          rw [e] at h2
          cases h2
          rfl
        cases b <;> cases b2 <;> simp at h1 <;> rfl
      repeat walk_at "s"
      intro p6 np6
      generalize hg6 : upd H5 p6 _ = H6
      have s6 : Same H5 H6 := hg6 ▸ same_new np6
      have e6 := (congrFun hg6 p6).symm.trans upd_same
      clear hg6
      have S6 : Same H4 H6 := s5.trans s6
      refine ⟨_, _, dp_two (S6 _ _ e4) (SqL.new (S6 _ _ E2)) (SqL.new (S6 _ _ E3)), dp_two e6 (SqL.new ((S4.trans S6) _ _ ep)) (SqL.new ((S4.trans S6) _ _ et)), shaped_two _ _, shaped_two _ _, ?_⟩
      rw [eqv_two]
      obtain ⟨dt6, inf6, its6⟩ := td H6 (S4.trans S6)
      repeat walk_at "s"
      refine ⟨_, dd, rfl, dt6, ?_⟩
      repeat walk_at "s"
      refine ne_same rfl ?_
      repeat walk_at "s"
      cases b2 with
      | true =>
        repeat walk_at "s"
        refine .inl ⟨⟨_, rfl⟩, ?_⟩
        repeat walk_at "s"
        refine ⟨d, belowL ns ms n, rfl, SqL.new ((S4.trans S6) _ _ ed), ?_⟩
        rw [belowL_sum]
        exact eq_same rfl (q H6 (S4.trans S6))
      | false =>
        repeat walk_at "s"
        exact q H6 (S4.trans S6)
    · obtain rfl : b = false := by
        cases b with
        | false => rfl
        | true =>
          obtain ⟨p2', h1, h2⟩ := hb.mp rfl
          exact absurd h2 (nli _ _ h1)
      refine .inr ⟨T, hT, TyX.up S4 ty, ?_⟩
      have s5 : Same H4 H4 := Same.refl _
      repeat walk_at "s"
      intro p6 np6
      generalize hg6 : upd H4 p6 _ = H6
      have s6 : Same H4 H6 := hg6 ▸ same_new np6
      have e6 := (congrFun hg6 p6).symm.trans upd_same
      clear hg6
      have S6 : Same H4 H6 := s5.trans s6
      refine ⟨_, _, dp_two (S6 _ _ e4) (SqL.new (S6 _ _ E2)) (SqL.new (S6 _ _ E3)), dp_two e6 (SqL.new ((S4.trans S6) _ _ ep)) (SqL.new ((S4.trans S6) _ _ et)), shaped_two _ _, shaped_two _ _, ?_⟩
      rw [eqv_two]
      obtain ⟨dt6, inf6, its6⟩ := td H6 (S4.trans S6)
      repeat walk_at "s"
      refine ⟨_, dd, rfl, dt6, ?_⟩
      repeat walk_at "s"
      refine ne_same rfl ?_
      repeat walk_at "s"
      exact q H6 (S4.trans S6)

theorem ok_spoilt46 {f : Addr} {fd : FuncData} (B : Bt mg) (F : Fun K "_law_spoilt" "_law_spoilt" slaw_spoilt f fd) (claw_take : Cal P w K mg base 1 "_law_take" ["draws", "many"] spTake) : FnOk P w K mg base CX0 2 f fd ["draws", "paper", "size"] (Rq.spSpoilt46 K) := by
  have nd := sclaw_spoilt.nd
  refine F.ok sclaw_spoilt (fun vs H Q E h => ?_) (fun cdv A outer s H vs Q E hr h => ?_)
  · obtain ⟨a, p, xs, n, rfl, _⟩ := h
    rfl
  · obtain ⟨a, p, xs, n, rfl, h0, pl, hl, hn, q⟩ := h
    have hu := hr.units
    have t40 : (10 : Int) ^ Int.toNat 40 = 10000000000000000000000000000000000000000 := by decide
    refine ⟨_, (pss_cons (ps_set (i := 3) nd rfl (.inl rfl) (pe_op op_mod (pe_own claw_take (hr.mono (by decide)) (by rfl) (pa_cons (pv 0) (pa_cons pe_int pa_nil))) (pe_op op_add (pe_callB call_len_seq (by rfl) B.len_ (by decide +kernel) (pa_cons (pv 1) pa_nil)) pe_int)))
      (pss_cons (ps_set (i := 4) nd rfl (.inl rfl) (pe_ix ix_list (pe_lst (pa_cons pe_bl (pa_cons pe_bl (pa_cons pe_non (pa_cons pe_str (pa_cons (pe_lst (pa_cons pe_int pa_nil)) (pa_cons (pe_tup pa_nil) (pa_cons (pe_un un_neg pe_int) (pa_cons (pe_op op_add (pv 2) pe_int) (pa_cons (pv 2) (pa_cons pe_int (pa_cons (pe_op op_pow pe_int pe_int) (pa_cons (pe_op op_sub pe_int (pe_op op_pow pe_int pe_int)) (pa_cons pe_dnewK pa_nil)))))))))))))) (pe_own claw_take (hr.mono (by decide)) (by rfl) (pa_cons (pv 0) (pa_cons pe_int pa_nil))) (fun _ _ => rfl)))
      (pss_cons (ps_set (i := 5) nd rfl (.inl rfl) (pe_own claw_take (hr.mono (by decide)) (by rfl) (pa_cons (pv 0) (pa_cons pe_int pa_nil))))
      (pss_cons (ps_if (pt_cmpR op_eq (pv 5) pe_int (nomark _)) (pss_one (ps_ret (pe_op op_cat (pe_slice sl_list (pv 1) po_none (po_some (pv 3))) (pe_slice sl_list (pv 1) (po_some (pe_op op_add (pv 3) pe_int)) po_none)))) pss_nil)
      (pss_cons (ps_if (pt_cmpR op_eq (pv 5) pe_int (nomark _)) (pss_one (ps_ret (pe_op op_cat (pe_op op_cat (pe_slice sl_list (pv 1) po_none (po_some (pv 3))) (pe_op op_rep (pe_slice sl_list (pv 1) (po_some (pv 3)) (po_some (pe_op op_add (pv 3) pe_int))) pe_int)) (pe_slice sl_list (pv 1) (po_some (pe_op op_add (pv 3) pe_int)) po_none)))) pss_nil)
      (pss_cons (ps_if (pt_cmpR op_eq (pv 5) pe_int (nomark _)) (pss_one (ps_ret (pe_op op_cat (pe_op op_cat (pe_slice sl_list (pv 1) po_none (po_some (pv 3))) (pe_revL (pe_slice sl_list (pv 1) (po_some (pv 3)) (po_some (pe_op op_add (pv 3) pe_int))))) (pe_slice sl_list (pv 1) (po_some (pe_op op_add (pv 3) pe_int)) po_none)))) pss_nil)
      (pss_one (ps_ret (pe_op op_cat (pe_op op_cat (pe_slice sl_list (pv 1) po_none (po_some (pv 3))) (pe_lst (pa_cons (pv 4) pa_nil))) (pe_slice sl_list (pv 1) (po_some (pe_op op_sub (pe_op op_add (pv 3) (pv 5)) pe_int)) po_none)))))))))), ?_⟩
    repeat walk_at "s"
    refine ⟨a, _, rfl, (by walk_at "hand"), (by walk_at "pos"), ?_⟩
    intro r1 H1 x1 ra1 rb1 rc1
    have h1 := x1.hand h0
    repeat walk_at "s"
    refine ⟨p, _, rfl, .inl (SqL.new (pl.ext x1).at_), ?_⟩
    repeat walk_at "s"
    obtain ⟨i, hi, il⟩ : ∃ i : Nat, r1 % ((xs.length : Int) + 1) = (i : Int) ∧ i ≤ xs.length := by
      have a1 := Int.emod_nonneg r1 (show ((xs.length : Int) + 1) ≠ 0 by omega)
      have a2 := Int.emod_lt_of_pos r1 (show (0 : Int) < (xs.length : Int) + 1 by omega)
      exact ⟨(r1 % ((xs.length : Int) + 1)).toNat, by omega, by omega⟩
    dsimp only
    rw [hi]
    have pl1 := pl.ext x1
    intro p2 np2
    generalize hg2 : upd H1 p2 _ = H2
    have s2 : Same H1 H2 := hg2 ▸ same_new np2
    have e2 := (congrFun hg2 p2).symm.trans upd_same
    clear hg2
    have n2 : p2 ≠ a := DrawAt.ne (by walk_at "hand") np2
    repeat walk_at "s"
    intro p3 np3
    generalize hg3 : upd H2 p3 _ = H3
    have s3 : Same H2 H3 := hg3 ▸ same_new np3
    have e3 := (congrFun hg3 p3).symm.trans upd_same
    clear hg3
    repeat walk_at "s"
    intro p4 np4
    generalize hg4 : upd H3 p4 _ = H4
    have s4 : Same H3 H4 := hg4 ▸ same_new np4
    have e4 := (congrFun hg4 p4).symm.trans upd_same
    clear hg4
    repeat walk_at "s"
    have h4 : DrawAt H4 a := ((h1.same s2).same s3).same s4
    intro p5 np5
    generalize hg5 : upd H4 p5 _ = H5
    have s5 : Same H4 H5 := hg5 ▸ same_new np5
    have e5 := (congrFun hg5 p5).symm.trans upd_same
    clear hg5
    have n5 : p5 ≠ a := DrawAt.ne (by walk_at "hand") np5
    repeat walk_at "s"
    have h5 := h4.same s5
    refine ⟨a, _, rfl, (by walk_at "hand"), (by walk_at "pos"), ?_⟩
    intro r6 H6 x6 ra6 rb6 rc6
    have h6 := x6.hand h5
    have S5 : Same H1 H5 := s2.trans (s3.trans (s4.trans s5))
    have X6 : ExtD a H1 H6 := (ExtD.same S5).trans x6
    have otherk : ∀ {b : Addr} {o : HO} {Ha Hb : Hp}, DrawAt Ha a → ExtD a Ha Hb → Ha b = some o → (∀ ys, o ≠ .lst ys) → Hb b = some o := fun {b o Ha Hb} hh e hb no => e.keep _ _ hb fun z => by
      obtain ⟨ds, e0, _⟩ := hh
      rw [z, e0] at hb
      cases hb
      exact no _ rfl
    have Y2 := x6.keep _ _ (s5 _ _ (s4 _ _ (s3 _ _ e2))) n2
    have Y3 := otherk h5 x6 (s5 _ _ (s4 _ _ e3)) (fun _ h => by cases h)
    have Y4 := otherk h5 x6 (s5 _ _ e4) (fun _ h => by cases h)
    have Y5 := x6.keep _ _ e5 n5
    obtain ⟨v, hv, mv⟩ := at_draw (xs := [V.bl true, V.bl false, V.non, V.str "0", V.ref p2, V.ref p3, V.int (-1), V.int ((n : Int) + 1), V.int (n : Int), V.int 0, V.int (10 ^ Int.toNat 40), V.int (0 - 10 ^ Int.toNat 40), V.ref p4]) (r := r6) (by omega) (by simp; omega)
    refine ⟨_, _, _, _, rfl, rfl, SqL.new Y5, hv, ?_⟩
    have od : Rq.OdD K a H6 v := by
      rw [t40] at mv
      simp only [List.mem_cons, List.not_mem_nil, or_false] at mv
      rcases mv with rfl | rfl | rfl | rfl | rfl | rfl | rfl | rfl | rfl | rfl | rfl | rfl | rfl
      · exact ⟨.bool true, ⟨rfl, rfl, by decide, by decide⟩, fun _ _ => ⟨.dat (.bl true) rfl, .inr Rq.ni_bl⟩⟩
      · exact ⟨.bool false, ⟨rfl, rfl, by decide, by decide⟩, fun _ _ => ⟨.dat (.bl false) rfl, .inr Rq.ni_bl⟩⟩
      · exact ⟨.none, ⟨rfl, rfl, by decide, by decide⟩, fun _ _ => ⟨.dat .non rfl, .inr Rq.ni_non⟩⟩
      · exact ⟨.str "0", ⟨by decide, by decide, by decide, by decide⟩, fun _ _ => ⟨.dat (.str _) rfl, .inr Rq.ni_str⟩⟩
      · exact ⟨.list [.int 0], ⟨rfl, by decide, by decide, by decide⟩, fun H' e => ⟨.dat (.lst (SqL.new (e.keep _ _ Y2 n2)) (.cons (.int 0) .nil)) rfl, .inr (Rq.ni_lst (e.keep _ _ Y2 n2))⟩⟩
      · exact ⟨.tuple [], ⟨rfl, rfl, by decide, by decide⟩, fun H' e => ⟨.dat (.tup (.inl (.inl (otherk h6 e Y3 (fun _ h => by cases h)))) .nil) rfl, .inr (Rq.ni_tup (otherk h6 e Y3 (fun _ h => by cases h)))⟩⟩
      · exact Rq.odD_int (by omega) (by omega)
      · exact Rq.odD_int (by omega) (by omega)
      · exact Rq.odD_int (by omega) (by omega)
      · exact Rq.odD_int (by omega) (by omega)
      · exact Rq.odD_int (by omega) (by omega)
      · exact Rq.odD_int (by omega) (by omega)
      · exact ⟨.dict [], ⟨rfl, rfl, by decide, by decide⟩, fun H' e => ⟨.emp (otherk h6 e Y4 (fun _ h => by cases h)), .inr (Rq.ni_dct (otherk h6 e Y4 (fun _ h => by cases h)))⟩⟩
    repeat walk_at "s"
    refine ⟨a, _, rfl, (by walk_at "hand"), (by walk_at "pos"), ?_⟩
    intro r7 H7 x7 ra7 rb7 rc7
    have h7 := x7.hand h6
    have pl7 := pl1.ext (X6.trans x7)
    have od7 := od.ext x7
    have X7 : ExtD a H H7 := x1.trans (X6.trans x7)
    have done : ∀ (H' : Hp) (p' : Addr) (ys : List V), ExtD a H7 H' → H' p' = some (.lst ys) → p' ≠ a → ys.length ≤ xs.length + 1 → (∀ y ∈ ys, y ∈ xs ∨ y = v) → Q (.ref p') H' := fun H' p' ys e g1 g2 g3 g4 =>
      q p' ys H' (X7.trans e) ⟨g1, g2, fun y hy => by
        rcases g4 y hy with h | rfl
        · exact (pl7.its y h).ext e
        · exact od7.ext e⟩ g3
    have i1 : (i : Int) + 1 = ((i + 1 : Nat) : Int) := rfl
    have i2 : (i : Int) + 2 = ((i + 2 : Nat) : Int) := rfl
    repeat walk_at "s"
    refine ⟨rfl, _, rfl, ?_⟩
    refine ite2 (fun z => ?_) (fun z => ?_)
    · repeat walk_at "s"
      refine ⟨p, xs, rfl, SqL.new pl7.at_, ?_⟩
      intro p8 np8
      generalize hg8 : upd H7 p8 _ = H8
      have s8 : Same H7 H8 := hg8 ▸ same_new np8
      have e8 := (congrFun hg8 p8).symm.trans upd_same
      clear hg8
      have n8 : p8 ≠ a := DrawAt.ne (by walk_at "hand") np8
      rw [cut_take] at e8
      repeat walk_at "s"
      refine ⟨p, xs, rfl, SqL.new (s8 _ _ pl7.at_), ?_⟩
      intro p9 np9
      generalize hg9 : upd H8 p9 _ = H9
      have s9 : Same H8 H9 := hg9 ▸ same_new np9
      have e9 := (congrFun hg9 p9).symm.trans upd_same
      clear hg9
      have n9 : p9 ≠ a := DrawAt.ne (by walk_at "hand") np9
      try dsimp only at e9
      rw [i1, cut_from] at e9
      refine ⟨p8, p9, _, _, rfl, rfl, s9 _ _ e8, e9, small (by simp; omega), ?_⟩
      intro p10 np10
      generalize hg10 : upd H9 p10 _ = H10
      have s10 : Same H9 H10 := hg10 ▸ same_new np10
      have e10 := (congrFun hg10 p10).symm.trans upd_same
      clear hg10
      have n10 : p10 ≠ a := DrawAt.ne (by walk_at "hand") np10
      refine done H10 p10 _ (.same (s8.trans (s9.trans s10))) e10 n10 (by simp; omega) fun y hy => .inl ?_
      rcases List.mem_append.mp hy with hy | hy
      · exact List.mem_of_mem_take hy
      · exact List.mem_of_mem_drop hy
    · repeat walk_at "s"
      refine ⟨rfl, _, rfl, ?_⟩
      refine ite2 (fun z1 => ?_) (fun z1 => ?_)
      · repeat walk_at "s"
        refine ⟨p, xs, rfl, SqL.new pl7.at_, ?_⟩
        intro p8 np8
        generalize hg8 : upd H7 p8 _ = H8
        have s8 : Same H7 H8 := hg8 ▸ same_new np8
        have e8 := (congrFun hg8 p8).symm.trans upd_same
        clear hg8
        have n8 : p8 ≠ a := DrawAt.ne (by walk_at "hand") np8
        rw [cut_take] at e8
        repeat walk_at "s"
        refine ⟨p, xs, rfl, SqL.new (s8 _ _ pl7.at_), ?_⟩
        intro p9 np9
        generalize hg9 : upd H8 p9 _ = H9
        have s9 : Same H8 H9 := hg9 ▸ same_new np9
        have e9 := (congrFun hg9 p9).symm.trans upd_same
        clear hg9
        have n9 : p9 ≠ a := DrawAt.ne (by walk_at "hand") np9
        try dsimp only at e9
        rw [i1, cut_mid, show i + 1 - i = 1 by omega] at e9
        refine ⟨p9, _, _, rfl, rfl, e9, by decide, by decide, small (by simp; omega), ?_⟩
        intro p10 np10
        generalize hg10 : upd H9 p10 _ = H10
        have s10 : Same H9 H10 := hg10 ▸ same_new np10
        have e10 := (congrFun hg10 p10).symm.trans upd_same
        clear hg10
        have n10 : p10 ≠ a := DrawAt.ne (by walk_at "hand") np10
        refine ⟨p8, p10, _, _, rfl, rfl, s10 _ _ (s9 _ _ e8), e10, small (by simp; omega), ?_⟩
        intro p11 np11
        generalize hg11 : upd H10 p11 _ = H11
        have s11 : Same H10 H11 := hg11 ▸ same_new np11
        have e11 := (congrFun hg11 p11).symm.trans upd_same
        clear hg11
        have n11 : p11 ≠ a := DrawAt.ne (by walk_at "hand") np11
        have S11 := s8.trans (s9.trans (s10.trans s11))
        repeat walk_at "s"
        refine ⟨p, xs, rfl, SqL.new (S11 _ _ pl7.at_), ?_⟩
        intro p12 np12
        generalize hg12 : upd H11 p12 _ = H12
        have s12 : Same H11 H12 := hg12 ▸ same_new np12
        have e12 := (congrFun hg12 p12).symm.trans upd_same
        clear hg12
        have n12 : p12 ≠ a := DrawAt.ne (by walk_at "hand") np12
        try dsimp only at e12
        rw [i1, cut_from] at e12
        refine ⟨p11, p12, _, _, rfl, rfl, s12 _ _ e11, e12, small (by simp; omega), ?_⟩
        intro p13 np13
        generalize hg13 : upd H12 p13 _ = H13
        have s13 : Same H12 H13 := hg13 ▸ same_new np13
        have e13 := (congrFun hg13 p13).symm.trans upd_same
        clear hg13
        have n13 : p13 ≠ a := DrawAt.ne (by walk_at "hand") np13
        refine done H13 p13 _ (.same (S11.trans (s12.trans s13))) e13 n13 (by simp; omega) fun y hy => .inl ?_
        simp only [List.mem_append, List.mem_flatten, List.mem_replicate] at hy
        rcases hy with (hy | ⟨l, ⟨_, rfl⟩, hy⟩) | hy
        · exact List.mem_of_mem_take hy
        · exact List.mem_of_mem_drop (List.mem_of_mem_take hy)
        · exact List.mem_of_mem_drop hy
      · repeat walk_at "s"
        refine ⟨rfl, _, rfl, ?_⟩
        refine ite2 (fun z2 => ?_) (fun z2 => ?_)
        · repeat walk_at "s"
          refine ⟨p, xs, rfl, SqL.new pl7.at_, ?_⟩
          intro p8 np8
          generalize hg8 : upd H7 p8 _ = H8
          have s8 : Same H7 H8 := hg8 ▸ same_new np8
          have e8 := (congrFun hg8 p8).symm.trans upd_same
          clear hg8
          have n8 : p8 ≠ a := DrawAt.ne (by walk_at "hand") np8
          rw [cut_take] at e8
          repeat walk_at "s"
          refine ⟨p, xs, rfl, SqL.new (s8 _ _ pl7.at_), ?_⟩
          intro p9 np9
          generalize hg9 : upd H8 p9 _ = H9
          have s9 : Same H8 H9 := hg9 ▸ same_new np9
          have e9 := (congrFun hg9 p9).symm.trans upd_same
          clear hg9
          have n9 : p9 ≠ a := DrawAt.ne (by walk_at "hand") np9
          try dsimp only at e9
          rw [i2, cut_mid] at e9
          refine ⟨p9, _, rfl, SqL.new e9, ?_⟩
          intro p10 np10
          generalize hg10 : upd H9 p10 _ = H10
          have s10 : Same H9 H10 := hg10 ▸ same_new np10
          have e10 := (congrFun hg10 p10).symm.trans upd_same
          clear hg10
          have n10 : p10 ≠ a := DrawAt.ne (by walk_at "hand") np10
          refine ⟨p8, p10, _, _, rfl, rfl, s10 _ _ (s9 _ _ e8), e10, small (by simp; omega), ?_⟩
          intro p11 np11
          generalize hg11 : upd H10 p11 _ = H11
          have s11 : Same H10 H11 := hg11 ▸ same_new np11
          have e11 := (congrFun hg11 p11).symm.trans upd_same
          clear hg11
          have n11 : p11 ≠ a := DrawAt.ne (by walk_at "hand") np11
          have S11 := s8.trans (s9.trans (s10.trans s11))
          repeat walk_at "s"
          refine ⟨p, xs, rfl, SqL.new (S11 _ _ pl7.at_), ?_⟩
          intro p12 np12
          generalize hg12 : upd H11 p12 _ = H12
          have s12 : Same H11 H12 := hg12 ▸ same_new np12
          have e12 := (congrFun hg12 p12).symm.trans upd_same
          clear hg12
          have n12 : p12 ≠ a := DrawAt.ne (by walk_at "hand") np12
          try dsimp only at e12
          rw [i2, cut_from] at e12
          refine ⟨p11, p12, _, _, rfl, rfl, s12 _ _ e11, e12, small (by simp; omega), ?_⟩
          intro p13 np13
          generalize hg13 : upd H12 p13 _ = H13
          have s13 : Same H12 H13 := hg13 ▸ same_new np13
          have e13 := (congrFun hg13 p13).symm.trans upd_same
          clear hg13
          have n13 : p13 ≠ a := DrawAt.ne (by walk_at "hand") np13
          refine done H13 p13 _ (.same (S11.trans (s12.trans s13))) e13 n13 (by simp; omega) fun y hy => .inl ?_
          simp only [List.mem_append, List.mem_reverse] at hy
          rcases hy with (hy | hy) | hy
          · exact List.mem_of_mem_take hy
          · exact List.mem_of_mem_drop (List.mem_of_mem_take hy)
          · exact List.mem_of_mem_drop hy
        · repeat walk_at "s"
          refine ⟨p, xs, rfl, SqL.new pl7.at_, ?_⟩
          intro p8 np8
          generalize hg8 : upd H7 p8 _ = H8
          have s8 : Same H7 H8 := hg8 ▸ same_new np8
          have e8 := (congrFun hg8 p8).symm.trans upd_same
          clear hg8
          have n8 : p8 ≠ a := DrawAt.ne (by walk_at "hand") np8
          rw [cut_take] at e8
          repeat walk_at "s"
          intro p9 np9
          generalize hg9 : upd H8 p9 _ = H9
          have s9 : Same H8 H9 := hg9 ▸ same_new np9
          have e9 := (congrFun hg9 p9).symm.trans upd_same
          clear hg9
          have n9 : p9 ≠ a := DrawAt.ne (by walk_at "hand") np9
          refine ⟨p8, p9, _, _, rfl, rfl, s9 _ _ e8, e9, small (by simp; omega), ?_⟩
          intro p10 np10
          generalize hg10 : upd H9 p10 _ = H10
          have s10 : Same H9 H10 := hg10 ▸ same_new np10
          have e10 := (congrFun hg10 p10).symm.trans upd_same
          clear hg10
          have n10 : p10 ≠ a := DrawAt.ne (by walk_at "hand") np10
          have S10 := s8.trans (s9.trans s10)
          repeat walk_at "s"
          refine ⟨p, xs, rfl, SqL.new (S10 _ _ pl7.at_), ?_⟩
          intro p11 np11
          generalize hg11 : upd H10 p11 _ = H11
          have s11 : Same H10 H11 := hg11 ▸ same_new np11
          have e11 := (congrFun hg11 p11).symm.trans upd_same
          clear hg11
          have n11 : p11 ≠ a := DrawAt.ne (by walk_at "hand") np11
          have w0 : r7 ≠ 0 := fun e => z (by rw [e]; exact decide_eq_true rfl)
          have w1 : r7 ≠ 1 := fun e => z1 (by rw [e]; exact decide_eq_true rfl)
          have w2 : r7 ≠ 2 := fun e => z2 (by rw [e]; exact decide_eq_true rfl)
          obtain ⟨k, hk⟩ : ∃ k : Nat, (i : Int) + r7 - 3 = (k : Int) ∧ i ≤ k := ⟨((i : Int) + r7 - 3).toNat, by omega, by omega⟩
          try dsimp only at e11
          rw [hk.1, cut_from] at e11
          refine ⟨p10, p11, _, _, rfl, rfl, s11 _ _ e10, e11, small (by simp; omega), ?_⟩
          intro p12 np12
          generalize hg12 : upd H11 p12 _ = H12
          have s12 : Same H11 H12 := hg12 ▸ same_new np12
          have e12 := (congrFun hg12 p12).symm.trans upd_same
          clear hg12
          have n12 : p12 ≠ a := DrawAt.ne (by walk_at "hand") np12
          refine done H12 p12 _ (.same (S10.trans (s11.trans s12))) e12 n12 (by simp; omega) fun y hy => ?_
          simp only [List.mem_append, List.mem_singleton] at hy
          rcases hy with (hy | rfl) | hy
          · exact .inl (List.mem_of_mem_take hy)
          · exact .inr rfl
          · exact .inl (List.mem_of_mem_drop hy)

theorem ok_beside46 {f : Addr} {fd : FuncData} (B : Bt mg) (F : Fun K "_law_beside_right" "_law_beside_right" slaw_beside_right f fd) (claw_take : Cal P w K mg base 1 "_law_take" ["draws", "many"] spTake) (claw_right : Gd.CalG P w K mg base 4 "_law_right" ["one", "other", "number", "due", "thing"] (Rq.spRight46 K)) : Gd.FnG P w K mg base 5 f fd ["draws", "one", "other", "number", "due"] (Rq.spBeside46 K) := by
  have nd := sclaw_beside_right.nd
  refine Gd.okG F sclaw_beside_right (fun vs H Q E h => ?_) (fun cdv A outer s H vs Q E ug hr h => ?_)
  · obtain ⟨a, p, t, d, ns, ms, n, rfl, _⟩ := h
    rfl
  · obtain ⟨a, p, t, d, ns, ms, n, rfl, h0, na, ta, da, ep, et, sp, st, l1, l2, ed, q⟩ := h
    have hu := hr.units
    have lb := belowL_len ns ms n
    have low := Rq.belowL_low (ns := ns) (n := n) (show ms.length ≤ 1000 by omega)
    refine ⟨_, (pss_cons (ps_for PassesOwn.never rfl (pi_range1 (by rfl) B.range_ (pa_cons (pe_callB (call_min2 rfl) (by rfl) B.min_ (by decide +kernel) (pa_cons pe_int (pa_cons (pe_callB call_len_seq (by rfl) B.len_ (by decide +kernel) (pa_cons (pv 4) pa_nil)) pa_nil))) pa_nil)) (pg_name (i := 5) nd rfl (.inl rfl)) (Evl.pss_cut (ps_set (i := 6) nd rfl (.inl rfl) (pe_ifExp (pt_cmpR op_gt (pe_callB call_len_seq (by rfl) B.len_ (by decide +kernel) (pa_cons (pv 4) pa_nil)) pe_int (nomark _)) (pe_op op_mod (pe_op op_add (pe_own claw_take (hr.mono (by decide)) (by rfl) (pa_cons (pv 0) (pa_cons pe_int pa_nil))) (pe_op op_mulW (pv 5) pe_int)) (pe_callB call_len_seq (by rfl) B.len_ (by decide +kernel) (pa_cons (pv 4) pa_nil))) (pv 5)))
      (pss_one (ps_for PassesOwn.never rfl (pi_tup (pe_tup (pa_cons pe_int (pa_cons (pe_un un_neg pe_int) pa_nil)))) (pg_name (i := 7) nd rfl (.inl rfl)) (pss_one (ps_if (pt_not (pt_val (Gd.pe_ownG claw_right ug (hr.mono (by decide)) (by rfl) (pa_cons (pv 1) (pa_cons (pv 2) (pa_cons (pv 3) (pa_cons (pv 4) (pa_cons (pe_op op_cat (pe_op op_cat (pe_slice sl_list (pv 4) po_none (po_some (pv 6))) (pe_lst (pa_cons (pe_op op_add (pe_ix ix_list (pv 4) (pv 6) (fun _ _ => rfl)) (pv 7)) pa_nil))) (pe_slice sl_list (pv 4) (po_some (pe_op op_add (pv 6) pe_int)) po_none)) pa_nil)))))))) (pss_one (ps_ret pe_bl)) pss_nil))))))
      (pss_one (ps_ret pe_bl))), ?_⟩
    repeat walk_at "s"
    refine ⟨d, _, rfl, .inl (SqL.new ed), ?_⟩
    rw [List.length_map, lb]
    refine ⟨_, _, rfl, ?_⟩
    refine ⟨_, rfl, by split <;> omega, by split <;> omega, ?_⟩
    rw [show (if (ns.length : Int) < 20 then (ns.length : Int) else 20).toNat = min 20 ns.length by split <;> omega]
    refine for_range (lo := 0) (n := min 20 ns.length) (fun k σ H' => ExtD a H H' ∧ ∃ (v5 v6 v7 : Option V), σ = [some (.ref a), some (.ref p), some (.ref t), some (.int n), some (.ref d), v5, v6, v7]) ⟨.refl, none, none, none, rfl⟩ (fun k σ Hk hk w => ?_) (fun σ Hk w => ?_)
    · obtain ⟨xk, v5, v6, v7, rfl⟩ := w
      have hk0 := xk.hand h0
      have edk := xk.keep _ _ ed da
      -- at
      refine ⟨fun σ' H' => ∃ i : Nat, i < ns.length ∧ ExtD a H H' ∧ σ' = [some (.ref a), some (.ref p), some (.ref t), some (.int n), some (.ref d), some (.int (0 + (k : Int))), some (.int (i : Int)), v7], ?_, ?_⟩
      · repeat walk_at "s"
        refine ⟨d, _, rfl, .inl (SqL.new edk), ?_⟩
        rw [List.length_map, lb]
        repeat walk_at "s"
        refine ite2 (fun z => ?_) (fun z => ?_)
        · repeat walk_at "s"
          refine ⟨a, _, rfl, (by walk_at "hand"), (by walk_at "pos"), ?_⟩
          intro r1 H1 x1 ra1 rb1 rc1
          repeat walk_at "s"
          refine ⟨d, _, rfl, .inl (SqL.new (x1.keep _ _ edk da)), ?_⟩
          rw [List.length_map, lb]
          have len0 : (0 : Int) < (ns.length : Int) := by omega
          repeat walk_at "s"
          have a1 := Int.emod_nonneg (r1 + (0 + (k : Int)) * 7) (show (ns.length : Int) ≠ 0 by omega)
          have a2 := Int.emod_lt_of_pos (r1 + (0 + (k : Int)) * 7) len0
          refine ⟨((r1 + (0 + (k : Int)) * 7) % (ns.length : Int)).toNat, by omega, xk.trans x1, ?_⟩
          rw [Int.toNat_of_nonneg a1]
          rfl
        · repeat walk_at "s"
          exact ⟨k, by omega, xk, by rw [show (0 : Int) + (k : Int) = (k : Int) by omega]; rfl⟩
      rintro σ' Hi ⟨i, il, xi, rfl⟩
      have hi0 := xi.hand h0
      have edi := xi.keep _ _ ed da
      repeat walk_at "s"
      intro p2 np2
      generalize hg2 : upd Hi p2 _ = H2
      have s2 : Same Hi H2 := hg2 ▸ same_new np2
      have e2 := (congrFun hg2 p2).symm.trans upd_same
      clear hg2
      have n2 : p2 ≠ a := DrawAt.ne (by walk_at "hand") np2
      refine ⟨p2, rfl, ⟨_, .inl (.inl e2)⟩, ?_⟩
      obtain ⟨m, hm⟩ : ∃ m, (belowL ns ms n)[i]? = some m := ⟨_, List.getElem?_eq_getElem (by omega)⟩
      have lm := low m (List.mem_of_getElem? hm)
      have m1 : 0 ≤ m ∧ m ≤ 300 := by
        unfold belowL at hm
        rw [List.getElem?_map] at hm
        obtain ⟨x, _, rfl⟩ := Option.map_eq_some_iff.mp hm
        have := cntB_le ms (n - x)
        omega
      refine for_tup (K := K) (a := p2) (xs := [V.int 1, V.int (-1)]) (fun j σ H' => Same H2 H' ∧ ∃ v7 : Option V, σ = [some (.ref a), some (.ref p), some (.ref t), some (.int n), some (.ref d), some (.int (0 + (k : Int))), some (.int (i : Int)), v7]) ⟨.refl _, _, rfl⟩ (fun j σ Hj _ w => .inl (.inl (w.1 _ _ e2))) (fun j x σ Hj hx w => ?_) (fun σ Hj w => ?_)
      · obtain ⟨sj, v7, rfl⟩ := w
        obtain ⟨y, rfl, y1⟩ : ∃ y : Int, x = .int y ∧ (y = 1 ∨ y = -1) := by
          match j, hx with
          | 0, hx => cases hx; exact ⟨1, rfl, .inl rfl⟩
          | 1, hx => cases hx; exact ⟨-1, rfl, .inr rfl⟩
        have Sj : Same Hi Hj := s2.trans sj
        have Xj : ExtD a H Hj := xi.trans (.same Sj)
        have hj0 := Xj.hand h0
        have edj := Sj _ _ edi
        repeat walk_at "s"
        refine ⟨d, _, rfl, SqL.new edj, ?_⟩
        intro p3 np3
        generalize hg3 : upd Hj p3 _ = H3
        have s3 : Same Hj H3 := hg3 ▸ same_new np3
        have e3 := (congrFun hg3 p3).symm.trans upd_same
        clear hg3
        have n3 : p3 ≠ a := DrawAt.ne (by walk_at "hand") np3
        rw [cut_take, ← List.map_take] at e3
        repeat walk_at "s"
        refine ⟨_, _, _, _, rfl, rfl, SqL.new (s3 _ _ edj), at_map (atI_nat hm), ?_⟩
        repeat walk_at "s"
        have hj3 := hj0.same s3
        intro p4 np4
        generalize hg4 : upd H3 p4 _ = H4
        have s4 : Same H3 H4 := hg4 ▸ same_new np4
        have e4 := (congrFun hg4 p4).symm.trans upd_same
        clear hg4
        have n4 : p4 ≠ a := DrawAt.ne (by walk_at "hand") np4
        refine ⟨p3, p4, _, _, rfl, rfl, s4 _ _ e3, e4, small (by simp; omega), ?_⟩
        have hj4 := hj3.same s4
        intro p5 np5
        generalize hg5 : upd H4 p5 _ = H5
        have s5 : Same H4 H5 := hg5 ▸ same_new np5
        have e5 := (congrFun hg5 p5).symm.trans upd_same
        clear hg5
        have n5 : p5 ≠ a := DrawAt.ne (by walk_at "hand") np5
        have S5 := s3.trans (s4.trans s5)
        repeat walk_at "s"
        refine ⟨d, _, rfl, SqL.new (S5 _ _ edj), ?_⟩
        have hj5 := hj4.same s5
        intro p6 np6
        generalize hg6 : upd H5 p6 _ = H6
        have s6 : Same H5 H6 := hg6 ▸ same_new np6
        have e6 := (congrFun hg6 p6).symm.trans upd_same
        clear hg6
        have n6 : p6 ≠ a := DrawAt.ne (by walk_at "hand") np6
        try dsimp only at e6
        rw [show (i : Int) + 1 = ((i + 1 : Nat) : Int) from rfl, cut_from, ← List.map_drop] at e6
        refine ⟨p5, p6, _, _, rfl, rfl, s6 _ _ e5, e6, small (by simp; omega), ?_⟩
        have hj6 := hj5.same s6
        intro p7 np7
        generalize hg7 : upd H6 p7 _ = H7
        have s7 : Same H6 H7 := hg7 ▸ same_new np7
        have e7 := (congrFun hg7 p7).symm.trans upd_same
        clear hg7
        have n7 : p7 ≠ a := DrawAt.ne (by walk_at "hand") np7
        have S7 := S5.trans (s6.trans s7)
        have e7' : H7 p7 = some (.lst (((belowL ns ms n).take i ++ [m + y] ++ (belowL ns ms n).drop (i + 1)).map V.int)) := by
          rw [e7, List.map_append, List.map_append]
          rfl
        have X7 := Xj.trans (.same S7)
        refine ⟨p, t, d, ns, ms, n, .ref p7, rfl, X7.keep _ _ ep na, X7.keep _ _ et ta, sp, st, l1, l2, S7 _ _ edj, Rq.ints_tq e7' (fun z hz => ?_) (by simp; omega), fun H8 s8 => ?_⟩
        · simp only [List.mem_append, List.mem_singleton] at hz
          rcases hz with (hz | rfl) | hz
          · exact low z (List.mem_of_mem_take hz)
          · omega
          · exact low z (List.mem_of_mem_drop hz)
        · repeat walk_at "s"
          first | exact ⟨sj.trans (S7.trans s8), _, rfl⟩ | exact ⟨_, rfl⟩
      · obtain ⟨sj, v7, rfl⟩ := w
        exact ⟨xi.trans (.same (s2.trans sj)), _, _, _, rfl⟩
    · obtain ⟨xk, v5, v6, v7, rfl⟩ := w
      repeat walk_at "s"
      exact q Hk xk

theorem ok_more46 {f : Addr} {fd : FuncData} (B : Bt mg) (F : Fun K "_law_more_right" "_law_more_right" slaw_more_right f fd) (claw_take : Cal P w K mg base 1 "_law_take" ["draws", "many"] spTake) (claw_row : Cal P w K mg base 2 "_law_row" ["draws", "most"] spRowD) (claw_asked : Cal P w K mg base 2 "_law_asked" ["draws", "one", "other"] spAskedD)
    (claw_below : Cal P w K mg base 1 "_law_below" ["one", "other", "number"] (spBelowL K)) (claw_spoilt : Cal P w K mg base 2 "_law_spoilt" ["draws", "paper", "size"] (Rq.spSpoilt46 K)) (claw_whole : Cal P w K mg base 1 "_law_whole" ["thing"] (spIsWhole K)) (cby_paper : Cal P w K mg base 3 "by_paper" ["one", "other", "number", "thing"] (spByPaper K))
    (claw_right : Gd.CalG P w K mg base 4 "_law_right" ["one", "other", "number", "due", "thing"] (Rq.spRight46 K)) (claw_deep : Cal P w K mg base 1 "_law_deep" ["many"] Rq.spDeep46) : Gd.FnG P w K mg base 5 f fd ["draws"] Rq.spMore46 := by
  have nd := sclaw_more_right.nd
  refine Gd.okG F sclaw_more_right (fun vs H Q E h => ?_) (fun cdv A outer s H vs Q E ug hr h => ?_)
  · obtain ⟨a, rfl, _⟩ := h
    rfl
  · obtain ⟨a, rfl, h0, q⟩ := h
    have hu := hr.units
    refine ⟨_, (pss_cons (ps_set (i := 1) nd rfl (.inl rfl) (pe_own claw_row (hr.mono (by decide)) (by rfl) (pa_cons (pv 0) (pa_cons pe_int pa_nil))))
      (pss_cons (ps_set (i := 2) nd rfl (.inl rfl) (pe_own claw_asked (hr.mono (by decide)) (by rfl) (pa_cons (pv 0) (pa_cons (pv 1) (pa_cons (pv 1) pa_nil)))))
      (pss_cons (ps_set (i := 3) nd rfl (.inl rfl) (pe_own claw_below (hr.mono (by decide)) (by rfl) (pa_cons (pv 1) (pa_cons (pv 1) (pa_cons (pv 2) pa_nil)))))
      (pss_cons (ps_for PassesOwn.never rfl (pi_list (pe_lst (pa_cons (pv 3) (pa_cons (pe_revL (pv 3)) (pa_cons (pe_callB cr_sortedI (by rfl) B.sorted_ (by decide +kernel) (pa_cons (pv 3) pa_nil)) (pa_cons (pe_own claw_spoilt (hr.mono (by decide)) (by rfl) (pa_cons (pv 0) (pa_cons (pv 3) (pa_cons (pe_callB call_len_seq (by rfl) B.len_ (by decide +kernel) (pa_cons (pv 1) pa_nil)) pa_nil)))) pa_nil)))))) (pg_name (i := 4) nd rfl (.inl rfl)) (pss_cons (ps_set (i := 5) nd rfl (.inl rfl) (pe_own cby_paper (hr.mono (by decide)) (by rfl) (pa_cons (pv 1) (pa_cons (pv 1) (pa_cons (pv 2) (pa_cons (pv 4) pa_nil))))))
      (Evl.pss_cut (ps_set (i := 7) nd rfl (.inl rfl) (pe_and (pe_cmpR (Rq.op_eqRow hu) (pv 4) (pv 3) (nomark _)) (pe_one (pe_cmpR (Rq.op_eqNil hu) (pe_lc (own := [("many", 6)]) (by rfl) nd (pi_list (pv 4)) (blkOk_by (own := [("many", 6)]) (N := ["draws", "one", "number", "due", "thing", "told", "many", "good", "other", "k", "i", "j", "bent"]) (sc := defScope slaw_more_right) (by decide +kernel)) (fun _ _ _ _ _ => (pg_name (i := 6) nd rfl (.inl rfl))) (fun _ _ _ _ _ => (pts_one (pt_not (pt_val (pe_own claw_whole (hr.mono (by decide)) (by rfl) (pa_cons (pv 6) pa_nil)))))) (fun _ _ _ _ _ => pe_int)) (pe_lst pa_nil) (nomark _)))))
      (pss_one (ps_if (PW.pt (pw_or (PW.pt (pw_and (pt_val (pv 7)) (pw_and1 (pt_cmpR op_ne (pv 5) (pe_callB (cr_sum rfl) (by rfl) B.sum_ (by decide +kernel) (pa_cons (pv 3) pa_nil)) (nomark _))))) (pw_or1 (PW.pt (pw_and (pt_not (pt_val (pv 7))) (pw_and1 (pt_cmpR op_notN (pv 5) pe_non (nomark _)))))))) (pss_one (ps_ret pe_bl)) pss_nil)))))
      (pss_cons (ps_set (i := 8) nd rfl (.inl rfl) (pe_slice sl_list (pe_own claw_row (hr.mono (by decide)) (by rfl) (pa_cons (pv 0) (pa_cons pe_int pa_nil))) po_none (po_some (pe_callB call_len_seq (by rfl) B.len_ (by decide +kernel) (pa_cons (pv 1) pa_nil)))))
      (pss_cons (ps_set (i := 1) nd rfl (.inl rfl) (pe_slice sl_list (pv 1) po_none (po_some (pe_callB call_len_seq (by rfl) B.len_ (by decide +kernel) (pa_cons (pv 8) pa_nil)))))
      (pss_cons (ps_set (i := 3) nd rfl (.inl rfl) (pe_own claw_below (hr.mono (by decide)) (by rfl) (pa_cons (pv 1) (pa_cons (pv 8) (pa_cons (pv 2) pa_nil)))))
      (pss_cons (ps_if (pt_not (pt_val (Gd.pe_ownG claw_right ug (hr.mono (by decide)) (by rfl) (pa_cons (pv 1) (pa_cons (pv 8) (pa_cons (pv 2) (pa_cons (pv 3) (pa_cons (pe_own claw_below (hr.mono (by decide)) (by rfl) (pa_cons (pv 8) (pa_cons (pv 1) (pa_cons (pv 2) pa_nil)))) pa_nil)))))))) (pss_one (ps_ret pe_bl)) pss_nil)
      (pss_cons (ps_for PassesOwn.never rfl (pi_range1 (by rfl) B.range_ (pa_cons (pe_callB (call_min2 rfl) (by rfl) B.min_ (by decide +kernel) (pa_cons pe_int (pa_cons (pe_op op_sub (pe_callB call_len_seq (by rfl) B.len_ (by decide +kernel) (pa_cons (pv 3) pa_nil)) pe_int) pa_nil))) pa_nil)) (pg_name (i := 9) nd rfl (.inl rfl)) (pss_cons (ps_set (i := 10) nd rfl (.inl rfl) (pe_op op_mod (pe_own claw_take (hr.mono (by decide)) (by rfl) (pa_cons (pv 0) (pa_cons pe_int pa_nil))) (pe_callB call_len_seq (by rfl) B.len_ (by decide +kernel) (pa_cons (pv 3) pa_nil))))
      (pss_cons (ps_set (i := 11) nd rfl (.inl rfl) (pe_op op_mod (pe_op op_add (pe_op op_add (pv 10) pe_int) (pe_op op_mod (pe_own claw_take (hr.mono (by decide)) (by rfl) (pa_cons (pv 0) (pa_cons pe_int pa_nil))) (pe_op op_sub (pe_callB call_len_seq (by rfl) B.len_ (by decide +kernel) (pa_cons (pv 3) pa_nil)) pe_int))) (pe_callB call_len_seq (by rfl) B.len_ (by decide +kernel) (pa_cons (pv 3) pa_nil))))
      (pss_cons (ps_set (i := 12) nd rfl (.inl rfl) (pe_callTy call_list_of (by rfl) B.list_ (by decide +kernel) (pa_cons (pv 3) pa_nil)))
      (pss_cons (ps_asg (pe_op op_add (pe_ix ix_list (pv 12) (pv 10) (fun _ _ => rfl)) pe_int) (pg_sub (pv 12) (pv 10) set_list))
      (pss_cons (ps_asg (pe_op op_sub (pe_ix ix_list (pv 12) (pv 11) (fun _ _ => rfl)) pe_int) (pg_sub (pv 12) (pv 11) set_list))
      (pss_cons (ps_if (pt_not (pt_val (Gd.pe_ownG claw_right ug (hr.mono (by decide)) (by rfl) (pa_cons (pv 1) (pa_cons (pv 8) (pa_cons (pv 2) (pa_cons (pv 3) (pa_cons (pv 12) pa_nil)))))))) (pss_one (ps_ret pe_bl)) pss_nil)
      (pss_cons (ps_asg (pe_own claw_deep (hr.mono (by decide)) (by rfl) (pa_cons pe_int pa_nil)) (pg_sub (pv 12) (pv 10) set_list))
      (pss_one (ps_if (pt_cmpR op_notN (pe_own cby_paper (hr.mono (by decide)) (by rfl) (pa_cons (pv 1) (pa_cons (pv 8) (pa_cons (pv 2) (pa_cons (pv 12) pa_nil))))) pe_non (nomark _)) (pss_one (ps_ret pe_bl)) pss_nil))))))))))
      (pss_one (ps_ret pe_bl))))))))))), ?_⟩
    repeat walk_at "s"
    refine ⟨a, 60, rfl, h0, by decide, fun p ns H1 x1 np e1 l1 f1 => ?_⟩
    have h1 := x1.hand h0
    have npa : p ≠ a := DrawAt.ne h0 np
    have R1 : RowAt H1 a p ns := ⟨e1, npa, f1, by omega⟩
    repeat walk_at "s"
    refine ⟨a, p, p, ns, ns, rfl, h1, R1, R1, fun n H2 x2 => ?_⟩
    have h2 := x2.hand h1
    have R2 := R1.upD x2
    repeat walk_at "s"
    refine ⟨p, p, ns, ns, n, rfl, R2.sq, R2.sq, f1.1, f1.1, by omega, fun d H3 s3 ndd ed => ?_⟩
    have h3 := h2.same s3
    have R3 := R2.upD (.same s3)
    have nda : d ≠ a := DrawAt.ne h2 ndd
    have lb := belowL_len ns ns n
    have low := Rq.belowL_low (ns := ns) (n := n) (show ns.length ≤ 1000 by omega)
    repeat walk_at "s"
    refine ⟨d, _, rfl, SqL.new ed, ?_⟩
    intro p4 np4
    generalize hg4 : upd H3 p4 _ = H4
    have s4 : Same H3 H4 := hg4 ▸ same_new np4
    have e4 := (congrFun hg4 p4).symm.trans upd_same
    clear hg4
    have n4 : p4 ≠ a := DrawAt.ne (by walk_at "hand") np4
    repeat walk_at "s"
    refine ⟨d, _, rfl, SqL.new (s4 _ _ ed), fun zs p5 pz sz np5 => ?_⟩
    generalize hg5 : upd H4 p5 _ = H5
    have s5 : Same H4 H5 := hg5 ▸ same_new np5
    have e5 := (congrFun hg5 p5).symm.trans upd_same
    clear hg5
    have h4 : DrawAt H4 a := h3.same s4
    have h5 : DrawAt H5 a := h4.same s5
    have n5 : p5 ≠ a := DrawAt.ne h4 np5
    have R5 := R3.upD (.same (s4.trans s5))
    have ed5 := s5 _ _ (s4 _ _ ed)
    repeat walk_at "s"
    refine ⟨p, _, rfl, .inl R5.sq, ?_⟩
    rw [List.length_map]
    have ln : ns.length ≤ 60 := l1
    refine ⟨a, d, _, ns.length, rfl, h5, Rq.pl_ints ed5 nda low, by rw [List.length_map]; omega, by omega, fun p6 xs6 H6 x6 pl6 l6 => ?_⟩
    rw [List.length_map, lb] at l6
    have h6 := x6.hand h5
    repeat walk_at "s"
    intro p7 np7
    generalize hg7 : upd H6 p7 _ = H7
    have s7 : Same H6 H7 := hg7 ▸ same_new np7
    have e7 := (congrFun hg7 p7).symm.trans upd_same
    clear hg7
    have n7 : p7 ≠ a := DrawAt.ne (by walk_at "hand") np7
    have ed6 := x6.keep _ _ ed5 nda
    have h7 := h6.same s7
    have ed7 := s7 _ _ ed6
    have X57 : ExtD a H5 H7 := x6.trans (.same s7)
    have R7 := R5.upD X57
    have four : ∀ x ∈ [V.ref d, V.ref p4, V.ref p5, V.ref p6], ∃ (p' : Addr) (xs : List V), x = .ref p' ∧ H7 p' = some (.lst xs) ∧ Rq.Tq K H7 x := fun x hx => by
      simp only [List.mem_cons, List.not_mem_nil, or_false] at hx
      rcases hx with rfl | rfl | rfl | rfl
      · exact ⟨d, _, rfl, ed7, Rq.ints_tq ed7 low (by omega)⟩
      · have e47 := X57.keep _ _ (s5 _ _ e4) n4
        rw [← List.map_reverse] at e47
        exact ⟨p4, _, rfl, e47, Rq.ints_tq e47 (fun z hz => low z (List.mem_reverse.mp hz)) (by rw [List.length_reverse]; omega)⟩
      · have e57 := X57.keep _ _ e5 n5
        exact ⟨p5, _, rfl, e57, Rq.ints_tq e57 (fun z hz => low z (pz.mem_iff.mp hz)) (by rw [pz.length_eq]; omega)⟩
      · have pl7 := pl6.ext (.same s7)
        exact ⟨p6, _, rfl, pl7.at_, (Rq.pl_thD pl7 (by omega)).tq⟩
    have X7 : ExtD a H H7 := x1.trans (x2.trans ((ExtD.same (s3.trans (s4.trans s5))).trans X57))
    refine ⟨p7, rfl, ⟨_, SqL.new e7⟩, ?_⟩
    refine for_list (K := K) (a := p7) (xs := [V.ref d, V.ref p4, V.ref p5, V.ref p6]) (fun i σ H' => Same H7 H' ∧ ∃ v4 v5 v6 v7, σ = [some (.ref a), some (.ref p), some (.int n), some (.ref d), v4, v5, v6, v7, none, none, none, none, none]) ⟨Same.refl _, _, _, _, _, rfl⟩ (fun i σ Hi _ w => w.1.seq (SqL.new e7)) (fun i x σ Hi hx w => ?_) (fun σ Hi w => ?_)
    · obtain ⟨si, v4, v5, v6, v7, rfl⟩ := w
      obtain ⟨p', xs, rfl, e', dd, td⟩ := four x (List.mem_of_getElem? hx)
      have e := si _ _ e'
      obtain ⟨dt, inf, its⟩ := td Hi si
      have Ri := R7.upD (.same si)
      have edi := si _ _ ed7
      have hk : ∀ y ∈ xs, Kn K Hi y := by
        rcases inf.two with ⟨p2, ys, h1, h2, h3⟩ | ⟨T, hT, ty, nli⟩
        · cases h1
          rw [e] at h2
          cases h2
          exact h3
        · exact absurd e (nli _ _ rfl)
      obtain ⟨lx, ds, els⟩ := its p' xs rfl e
      have hS : SqL K Hi p' xs := SqL.new e
      repeat walk_at "s"
      refine ⟨p, p, ns, ns, n, .ref p', rfl, Ri.sq, Ri.sq, f1.1, by omega, .inl ⟨p', xs, rfl, hS, hk, fun b2 H8 hb2 s8 => ?_⟩⟩
      have e8 := s8 _ _ e
      have hS8 : SqL K H8 p' xs := SqL.new e8
      -- good
      refine ⟨fun σ' H' => ∃ (b : Bool) (v6 : Option V), Same H8 H' ∧ (b = true ↔ xs = (belowL ns ns n).map V.int) ∧ σ' = [some (.ref a), some (.ref p), some (.int n), some (.ref d), some (.ref p'), some (paperTold b2 ((cntS ns ns n : Nat) : Int)), v6, some (.bl b), none, none, none, none, none], ?_, ?_⟩
      · obtain ⟨_, _, its8⟩ := td H8 (si.trans s8)
        obtain ⟨_, ds8, els8⟩ := its8 p' xs rfl e8
        repeat walk_at "s"
        refine ⟨p', d, xs, ds8, belowL ns ns n, rfl, rfl, hS8, els8, SqL.new (s8 _ _ edi), fun c hc => ?_⟩
        repeat walk_at "s"
        cases c with
        | false =>
          repeat walk_at "s"
          refine ⟨false, _, Same.refl _, ⟨fun h => (by cases h), fun h => ?_⟩, rfl⟩
          have := hc _ h
          rw [decide_eq_true rfl] at this
          cases this
        | true =>
          repeat walk_at "s"
          refine ⟨⟨_, hS8⟩, ?_⟩
          intro D nD
          refine lc_list (K := K) (a := p') (xs := xs) (fun j H' => Same H8 H' ∧ ∃ ys : List V, H' D = some (.lst ys) ∧ ys.length ≤ j ∧ (ys = [] ↔ ∀ y ∈ xs.take j, ∃ i, y = V.int i)) ⟨same_new nD, [], upd_same, Nat.le_refl _, fun _ y hy => by simp at hy, fun _ => rfl⟩ (fun j Hj _ w => w.1.seq hS8) (fun j y Hj hy w => ?_) (fun H9 w => ?_)
          · obtain ⟨w1, ys, e1, ly, w2⟩ := w
            have jl := (List.getElem?_eq_some_iff.mp hy).1
            refine ⟨rfl, ?_⟩
            repeat walk_at "s"
            rcases hk y (List.mem_of_getElem? hy) with ⟨i, rfl⟩ | hno
            · refine .inl ⟨⟨i, rfl⟩, ?_⟩
              repeat walk_at "s"
              refine ⟨ys, e1, by omega, ?_⟩
              rw [take_snoc hy]
              refine ⟨fun h y hy => ?_, fun h => w2.mpr fun y hy => h y (List.mem_append_left _ hy)⟩
              rcases List.mem_append.mp hy with hy | hy
              · exact w2.mp h y hy
              · exact ⟨i, List.mem_singleton.mp hy⟩
            · refine .inr ⟨(hno.up s8).up w1, ?_⟩
              repeat walk_at "s"
              refine ⟨ys, e1, smallLt (by omega), same_app nD w1, ys ++ [.int 1], upd_same, by rw [List.length_append]; simp; omega, fun h => absurd h (by simp), fun h => ?_⟩
              rw [take_snoc hy] at h
              obtain ⟨i, hi⟩ := h y (List.mem_append_right _ (List.mem_singleton.mpr rfl))
              exact absurd hi (hno.ne i)
          obtain ⟨s9, ys, e9, ly, w9⟩ := w
          rw [take_all] at w9
          repeat walk_at "s"
          intro p10 np10
          generalize hg10 : upd H9 p10 _ = H10
          have s10 : Same H9 H10 := hg10 ▸ same_new np10
          have e10 := (congrFun hg10 p10).symm.trans upd_same
          clear hg10
          refine ⟨D, p10, ys, rfl, rfl, SqL.new (s10 _ _ e9), SqL.new e10, ?_⟩
          repeat walk_at "s"
          by_cases z : ys = []
          · subst z
            obtain ⟨us, rfl⟩ := Rq.nums_of (w9.mp rfl)
            have hz : us = belowL ns ns n := of_decide_eq_true (hc us rfl).symm
            exact ⟨true, _, s9.trans s10, ⟨fun _ => by rw [hz], fun _ => rfl⟩, rfl⟩
          · have zf : ys.isEmpty = false := by
              cases ys with
              | nil => exact absurd rfl z
              | cons => rfl
            rw [zf]
            refine ⟨false, _, s9.trans s10, ⟨fun h => (by cases h), fun h => ?_⟩, rfl⟩
            refine absurd (w9.mpr fun y hy => ?_) z
            rw [h] at hy
            obtain ⟨m, _, rfl⟩ := List.mem_map.mp hy
            exact ⟨m, rfl⟩
      rintro σ' H9 ⟨b, v6, s9, hb, rfl⟩
      obtain rfl : b2 = b := by
        have h1 : b2 = true ↔ b = true := hb2.trans hb.symm
        cases b <;> cases b2 <;> simp at h1 <;> rfl
      cases b2 with
      | true =>
        repeat walk_at "s"
        refine ⟨d, belowL ns ns n, rfl, SqL.new (s9 _ _ (s8 _ _ edi)), ?_⟩
        rw [belowL_sum]
        refine ne_same rfl ?_
        repeat walk_at "s"
        first | exact ⟨si.trans (s8.trans s9), _, _, _, _, rfl⟩ | exact ⟨_, _, _, _, rfl⟩
      | false =>
        repeat walk_at "s"
        first | exact ⟨si.trans (s8.trans s9), _, _, _, _, rfl⟩ | exact ⟨_, _, _, _, rfl⟩
    obtain ⟨si, v4, v5, v6, v7, rfl⟩ := w
    have Xi : ExtD a H Hi := X7.trans (.same si)
    have hi := Xi.hand h0
    have Ri := R7.upD (.same si)
    repeat walk_at "s"
    clear four e7 X57 x6 pl6 np5 e5 pz sz
    refine ⟨a, 60, rfl, hi, by decide, fun t ms H11 x11 nt et lt ft => ?_⟩
    have h11 := x11.hand hi
    have nta : t ≠ a := DrawAt.ne hi nt
    have R11 := Ri.upD x11
    repeat walk_at "s"
    refine ⟨p, _, rfl, .inl R11.sq, ?_⟩
    rw [List.length_map]
    refine ⟨_, rfl, ?_⟩
    refine ⟨t, _, rfl, SqL.new et, ?_⟩
    intro p12 np12
    generalize hg12 : upd H11 p12 _ = H12
    have s12 : Same H11 H12 := hg12 ▸ same_new np12
    have e12 := (congrFun hg12 p12).symm.trans upd_same
    clear hg12
    have n12 : p12 ≠ a := DrawAt.ne (by walk_at "hand") np12
    rw [cut_take, ← List.map_take] at e12
    have h12 := h11.same s12
    have R12 := R11.upD (.same s12)
    repeat walk_at "s"
    refine ⟨p12, _, rfl, .inl (SqL.new e12), ?_⟩
    rw [List.length_map]
    refine ⟨_, rfl, ?_⟩
    refine ⟨p, _, rfl, R12.sq, ?_⟩
    intro p13 np13
    generalize hg13 : upd H12 p13 _ = H13
    have s13 : Same H12 H13 := hg13 ▸ same_new np13
    have e13 := (congrFun hg13 p13).symm.trans upd_same
    clear hg13
    have n13 : p13 ≠ a := DrawAt.ne (by walk_at "hand") np13
    rw [cut_take, ← List.map_take] at e13
    obtain ⟨us, hus⟩ : ∃ us, ms.take ns.length = us := ⟨_, rfl⟩
    rw [hus] at e12 e13
    obtain ⟨ws, hws⟩ : ∃ ws, ns.take us.length = ws := ⟨_, rfl⟩
    rw [hws] at e13
    have e12 := s13 _ _ e12
    have us1 : us.Pairwise (· ≤ ·) := by rw [← hus]; exact ft.1.sublist (List.take_sublist _ _)
    have ws1 : ws.Pairwise (· ≤ ·) := by rw [← hws]; exact f1.1.sublist (List.take_sublist _ _)
    have lu : us.length ≤ 60 := by rw [← hus, List.length_take]; omega
    have lw : ws.length ≤ 60 := by rw [← hws, List.length_take]; omega
    have h13 := h12.same s13
    repeat walk_at "s"
    refine ⟨p13, p12, ws, us, n, rfl, SqL.new e13, SqL.new e12, ws1, us1, by omega, fun d2 H14 s14 nd2 ed2 => ?_⟩
    have nd2a : d2 ≠ a := DrawAt.ne h13 nd2
    repeat walk_at "s"
    refine ⟨p12, p13, us, ws, n, rfl, SqL.new (s14 _ _ e12), SqL.new (s14 _ _ e13), us1, ws1, by omega, fun d3 H15 s15 nd3 ed3 => ?_⟩
    have S15 := s14.trans s15
    have low2 := Rq.belowL_low (ns := ws) (n := n) (show us.length ≤ 1000 by omega)
    have low3 := Rq.belowL_low (ns := us) (n := n) (show ws.length ≤ 1000 by omega)
    have lb2 := belowL_len ws us n
    have lb3 := belowL_len us ws n
    refine ⟨p13, p12, d2, ws, us, n, .ref d3, rfl, S15 _ _ e13, S15 _ _ e12, ws1, us1, by omega, by omega, s15 _ _ ed2, Rq.ints_tq ed3 low3 (by omega), fun H16 s16 => ?_⟩
    have S16 := S15.trans s16
    have E13 := S16 _ _ e13
    have E12 := S16 _ _ e12
    have ED2 := s16 _ _ (s15 _ _ ed2)
    have h16 := h13.same S16
    have X16 : ExtD a H H16 := Xi.trans (x11.trans (.same (s12.trans (s13.trans S16))))
    repeat walk_at "s"
    refine ⟨d2, _, rfl, .inl (SqL.new ED2), ?_⟩
    rw [List.length_map, lb2]
    repeat walk_at "s"
    refine ⟨_, _, rfl, ?_⟩
    refine ⟨_, rfl, by split <;> omega, by split <;> omega, ?_⟩
    rw [show (if (ws.length : Int) - 1 < 4 then (ws.length : Int) - 1 else 4).toNat = min 4 (ws.length - 1) by split <;> omega]
    refine for_range (lo := 0) (n := min 4 (ws.length - 1)) (fun k σ H' => ExtD a H16 H' ∧ ∃ v9 v10 v11 v12, σ = [some (.ref a), some (.ref p13), some (.int n), some (.ref d2), v4, v5, v6, v7, some (.ref p12), v9, v10, v11, v12]) ⟨.refl, _, _, _, _, rfl⟩ (fun k σ Hk hk w => ?_) (fun σ Hk w => ?_)
    · obtain ⟨xk, v9, v10, v11, v12, rfl⟩ := w
      have hk0 := xk.hand h16
      have edk := xk.keep _ _ ED2 nd2a
      have len2 : (1 : Int) < (ws.length : Int) := by omega
      repeat walk_at "s"
      refine ⟨a, _, rfl, (by walk_at "hand"), (by walk_at "pos"), ?_⟩
      intro r17 H17 x17 ra17 rb17 rc17
      have h17 := x17.hand hk0
      have ed17 := x17.keep _ _ edk nd2a
      repeat walk_at "s"
      refine ⟨d2, _, rfl, .inl (SqL.new ed17), ?_⟩
      rw [List.length_map, lb2]
      obtain ⟨i, hi_, il⟩ : ∃ i : Nat, r17 % (ws.length : Int) = (i : Int) ∧ i < ws.length := by
        have a1 := Int.emod_nonneg r17 (show (ws.length : Int) ≠ 0 by omega)
        have a2 := Int.emod_lt_of_pos r17 (show (0 : Int) < (ws.length : Int) by omega)
        exact ⟨(r17 % (ws.length : Int)).toNat, by omega, by omega⟩
      refine ⟨_, _, rfl, rfl, by show (0 : Int) < _; omega, ?_⟩
      dsimp only
      rw [hi_]
      repeat walk_at "s"
      refine ⟨a, _, rfl, (by walk_at "hand"), (by walk_at "pos"), ?_⟩
      intro r18 H18 x18 ra18 rb18 rc18
      have h18 := x18.hand h17
      have ed18 := x18.keep _ _ ed17 nd2a
      repeat walk_at "s"
      refine ⟨d2, _, rfl, .inl (SqL.new ed18), ?_⟩
      rw [List.length_map, lb2]
      repeat walk_at "s"
      refine ⟨d2, _, rfl, .inl (SqL.new ed18), ?_⟩
      rw [List.length_map, lb2]
      obtain ⟨j, hj_, jl⟩ : ∃ j : Nat, ((i : Int) + 1 + r18 % ((ws.length : Int) - 1)) % (ws.length : Int) = (j : Int) ∧ j < ws.length := by
        have a1 := Int.emod_nonneg ((i : Int) + 1 + r18 % ((ws.length : Int) - 1)) (show (ws.length : Int) ≠ 0 by omega)
        have a2 := Int.emod_lt_of_pos ((i : Int) + 1 + r18 % ((ws.length : Int) - 1)) (show (0 : Int) < (ws.length : Int) by omega)
        exact ⟨(((i : Int) + 1 + r18 % ((ws.length : Int) - 1)) % (ws.length : Int)).toNat, by omega, by omega⟩
      refine ⟨_, _, rfl, rfl, by show (0 : Int) < _; omega, ?_⟩
      dsimp only
      rw [hj_]
      repeat walk_at "s"
      refine ⟨d2, _, rfl, .inl (SqL.new ed18), ?_⟩
      intro p19 np19
      generalize hg19 : upd H18 p19 _ = H19
      have s19 : Same H18 H19 := hg19 ▸ same_new np19
      have e19 := (congrFun hg19 p19).symm.trans upd_same
      clear hg19
      have n19 : p19 ≠ a := DrawAt.ne (by walk_at "hand") np19
      have ed19 := s19 _ _ ed18
      have bl : (belowL ws us n).length = ws.length := lb2
      obtain ⟨bs, hbs⟩ : ∃ bs, belowL ws us n = bs := ⟨_, rfl⟩
      rw [hbs] at e19 bl
      obtain ⟨m, hm⟩ : ∃ m, bs[i]? = some m := ⟨_, List.getElem?_eq_getElem (by omega)⟩
      have m1 : ∀ z ∈ bs, -1000 ≤ z ∧ z ≤ 1000 := fun z hz => by
        rw [← hbs] at hz
        unfold belowL at hz
        obtain ⟨x, _, rfl⟩ := List.mem_map.mp hz
        have := cntB_le us (n - x)
        omega
      repeat walk_at "s"
      refine ⟨_, _, _, _, rfl, rfl, SqL.new e19, at_map (atI_nat hm), ?_⟩
      repeat walk_at "s"
      have ix : ∀ (xs : List V) (k : Nat), k < xs.length → ixN xs.length (k : Int) = some k := fun xs k hk => Rq.ixN_at hk
      refine ⟨p19, _, _, i, rfl, rfl, e19, ix _ _ (by rw [List.length_map]; omega), ?_⟩
      rw [show ((bs.map V.int).set i ((fun i j => V.int (i + j)) m 1)) = (bs.set i (m + 1)).map V.int from by rw [List.map_set]]
      have h19 := h18.same s19
      have X20 : ExtD a H18 (upd H19 p19 (.lst ((bs.set i (m + 1)).map V.int))) := ext_appD np19 n19 (.same s19)
      have e20 : (upd H19 p19 (.lst ((bs.set i (m + 1)).map V.int))) p19 = some (.lst ((bs.set i (m + 1)).map V.int)) := upd_same
      generalize upd H19 p19 (.lst ((bs.set i (m + 1)).map V.int)) = H20 at X20 e20 ⊢
      obtain ⟨m2, hm2⟩ : ∃ m2, (bs.set i (m + 1))[j]? = some m2 := ⟨_, List.getElem?_eq_getElem (by rw [List.length_set]; omega)⟩
      repeat walk_at "s"
      refine ⟨_, _, _, _, rfl, rfl, SqL.new e20, at_map (atI_nat hm2), ?_⟩
      repeat walk_at "s"
      refine ⟨p19, _, _, j, rfl, rfl, e20, ix _ _ (by rw [List.length_map, List.length_set]; omega), ?_⟩
      rw [show (((bs.set i (m + 1)).map V.int).set j ((fun i j => V.int (i - j)) m2 1)) = ((bs.set i (m + 1)).set j (m2 - 1)).map V.int from by simp only [List.map_set]]
      have X21 : ExtD a H18 (upd H20 p19 (.lst (((bs.set i (m + 1)).set j (m2 - 1)).map V.int))) := ext_appD np19 n19 X20
      have e21 : (upd H20 p19 (.lst (((bs.set i (m + 1)).set j (m2 - 1)).map V.int))) p19 = some (.lst (((bs.set i (m + 1)).set j (m2 - 1)).map V.int)) := upd_same
      generalize upd H20 p19 (.lst (((bs.set i (m + 1)).set j (m2 - 1)).map V.int)) = H21 at X21 e21 ⊢
      have lo1 : ∀ z ∈ bs.set i (m + 1), -1001 ≤ z ∧ z ≤ 1001 := fun z hz => by
        rcases List.mem_or_eq_of_mem_set hz with h | rfl
        · have := m1 z h
          omega
        · have := m1 m (List.mem_of_getElem? hm)
          omega
      have lo2 : Rq.Low ((bs.set i (m + 1)).set j (m2 - 1)) := fun z hz => by
        rcases List.mem_or_eq_of_mem_set hz with h | rfl
        · have := lo1 z h
          omega
        · have := lo1 m2 (List.mem_of_getElem? hm2)
          omega
      obtain ⟨cs, hcs⟩ : ∃ cs, (bs.set i (m + 1)).set j (m2 - 1) = cs := ⟨_, rfl⟩
      rw [hcs] at e21 lo2
      have lcs : cs.length = ws.length := by rw [← hcs, List.length_set, List.length_set]; omega
      have XK : ExtD a H16 H21 := xk.trans (x17.trans (x18.trans X21))
      have F13 := XK.keep _ _ E13 n13
      have F12 := XK.keep _ _ E12 n12
      have FD2 := XK.keep _ _ ED2 nd2a
      repeat walk_at "s"
      refine ⟨p13, p12, d2, ws, us, n, .ref p19, rfl, F13, F12, ws1, us1, by omega, by omega, FD2, Rq.ints_tq e21 lo2 (by omega), fun H22 s22 => ?_⟩
      repeat walk_at "s"
      intro td t' zs H23 s23 ntd etd et'
      have e23 := s23 _ _ (s22 _ _ e21)
      repeat walk_at "s"
      refine ⟨p19, _, _, i, rfl, rfl, e23, ix _ _ (by rw [List.length_map]; omega), ?_⟩
      have ntp : td ≠ p19 := fun z => by rw [z, s22 _ _ e21] at ntd; cases ntd
      have X23 : ExtD a H18 H23 := X21.trans (.same (s22.trans s23))
      have X24 : ExtD a H18 (upd H23 p19 (.lst ((cs.map V.int).set i (.ref td)))) := ext_appD np19 n19 X23
      have e24 : (upd H23 p19 (.lst ((cs.map V.int).set i (.ref td)))) p19 = some (.lst ((cs.map V.int).set i (.ref td))) := upd_same
      have etd24 : (upd H23 p19 (.lst ((cs.map V.int).set i (.ref td)))) td = some (.lst [.ref t']) := by rw [upd_ne ntp]; exact etd
      generalize upd H23 p19 (.lst ((cs.map V.int).set i (.ref td))) = H24 at X24 e24 etd24 ⊢
      have XL : ExtD a H16 H24 := xk.trans (x17.trans (x18.trans X24))
      repeat walk_at "s"
      refine ⟨p13, p12, ws, us, n, .ref p19, rfl, SqL.new (XL.keep _ _ E13 n13), SqL.new (XL.keep _ _ E12 n12), us1, by omega, .inl ⟨p19, _, rfl, SqL.new e24, fun y hy => ?_, fun b H25 hb s25 => ?_⟩⟩
      · rcases List.mem_or_eq_of_mem_set hy with h | rfl
        · obtain ⟨z, _, rfl⟩ := List.mem_map.mp h
          exact .inl ⟨z, rfl⟩
        · exact .inr (Rq.ni_lst etd24)
      · obtain rfl : b = false := by
          cases b with
          | false => rfl
          | true =>
            have h1 := hb.mp rfl
            have h2 : V.ref td ∈ (cs.map V.int).set i (.ref td) := List.mem_iff_getElem?.mpr ⟨i, List.getElem?_set_self (by rw [List.length_map]; omega)⟩
            rw [h1] at h2
            obtain ⟨z, _, h3⟩ := List.mem_map.mp h2
            cases h3
        repeat walk_at "s"
        first | exact ⟨XL.trans (.same s25), _, _, _, _, rfl⟩ | exact ⟨_, _, _, _, rfl⟩
    · obtain ⟨xk, v9, v10, v11, v12, rfl⟩ := w
      repeat walk_at "s"
      exact q Hk (X16.trans xk)

theorem ok_law46 {f : Addr} {fd : FuncData} (B : Bt mg) (F : Fun K "law" "law" slaw f fd) (claw_draws : Cal P w K mg base 1 "_law_draws" ["script"] (spDraws K)) (claw_take : Cal P w K mg base 1 "_law_take" ["draws", "many"] spTake) (claw_row : Cal P w K mg base 2 "_law_row" ["draws", "most"] spRowD) (claw_asked : Cal P w K mg base 2 "_law_asked" ["draws", "one", "other"] spAskedD)
    (claw_below : Cal P w K mg base 1 "_law_below" ["one", "other", "number"] (spBelowL K)) (claw_spoilt : Cal P w K mg base 2 "_law_spoilt" ["draws", "paper", "size"] (Rq.spSpoilt46 K)) (claw_right : Gd.CalG P w K mg base 4 "_law_right" ["one", "other", "number", "due", "thing"] (Rq.spRight46 K))
    (claw_beside_right : Gd.CalG P w K mg base 5 "_law_beside_right" ["draws", "one", "other", "number", "due"] (Rq.spBeside46 K)) (claw_more_right : Gd.CalG P w K mg base 5 "_law_more_right" ["draws"] Rq.spMore46) (cby_paper : Cal P w K mg base 3 "by_paper" ["one", "other", "number", "thing"] (spByPaper K)) (claw_deep : Cal P w K mg base 1 "_law_deep" ["many"] Rq.spDeep46) : Gd.FnG P w K mg base 6 f fd ["script"] (spLaw K) := by
  have nd := sclaw.nd
  refine Gd.okG F sclaw (fun vs H Q E h => ?_) (fun cdv A outer s H vs Q E ug hr h => ?_)
  · obtain ⟨a, ns, rfl, _⟩ := h
    rfl
  · obtain ⟨sc, ns, rfl, hS, hlen, q⟩ := h
    have hu := hr.units
    refine ⟨_, (pss_cons (ps_set (i := 1) nd rfl (.inl rfl) (pe_own claw_draws (hr.mono (by decide)) (by rfl) (pa_cons (pv 0) pa_nil)))
      (pss_cons (ps_set (i := 2) nd rfl (.inl rfl) (pe_own claw_take (hr.mono (by decide)) (by rfl) (pa_cons (pv 1) (pa_cons pe_int pa_nil))))
      (Evl.pss_cut (ps_if (PW.pt (pw_and (pt_cmpR op_eq (pv 2) pe_int (nomark _)) (pw_and1 (pt_not (pt_val (Gd.pe_ownG claw_more_right ug (hr.mono (by decide)) (by rfl) (pa_cons (pv 1) pa_nil))))))) (pss_one (ps_ret pe_bl)) pss_nil)
      (pss_cons (ps_set (i := 3) nd rfl (.inl rfl) pe_int)
      (pss_cons (ps_while PassesOwn.never (PW.pt (pw_or (pt_cmpR op_lt (pv 3) pe_int (nomark _)) (pw_or1 (PW.pt (pw_and (pt_cmpR (op_neD hu) (pv 1) (pe_lst pa_nil) (nomark _)) (pw_and1 (pt_cmpR op_lt (pv 3) pe_int (nomark _)))))))) (pss_cons (ps_set (i := 4) nd rfl (.inl rfl) (pe_own claw_row (hr.mono (by decide)) (by rfl) (pa_cons (pv 1) (pa_cons pe_int pa_nil))))
      (pss_cons (ps_set (i := 5) nd rfl (.inl rfl) (pe_own claw_row (hr.mono (by decide)) (by rfl) (pa_cons (pv 1) (pa_cons pe_int pa_nil))))
      (pss_cons (ps_set (i := 6) nd rfl (.inl rfl) (pe_own claw_asked (hr.mono (by decide)) (by rfl) (pa_cons (pv 1) (pa_cons (pv 4) (pa_cons (pv 5) pa_nil)))))
      (pss_cons (ps_set (i := 7) nd rfl (.inl rfl) (pe_own claw_below (hr.mono (by decide)) (by rfl) (pa_cons (pv 4) (pa_cons (pv 5) (pa_cons (pv 6) pa_nil)))))
      (pss_cons (ps_set (i := 8) nd rfl (.inl rfl) (pe_own claw_spoilt (hr.mono (by decide)) (by rfl) (pa_cons (pv 1) (pa_cons (pv 7) (pa_cons (pe_callB call_len_seq (by rfl) B.len_ (by decide +kernel) (pa_cons (pv 5) pa_nil)) pa_nil)))))
      (pss_cons (ps_set (i := 9) nd rfl (.inl rfl) (pe_lst (pa_cons (pv 7) (pa_cons (pv 8) (pa_cons (pe_own claw_spoilt (hr.mono (by decide)) (by rfl) (pa_cons (pv 1) (pa_cons (pv 8) (pa_cons (pe_callB call_len_seq (by rfl) B.len_ (by decide +kernel) (pa_cons (pv 5) pa_nil)) pa_nil)))) (pa_cons (pe_lst pa_nil) (pa_cons (pe_op op_cat (pv 7) (pe_lst (pa_cons pe_int pa_nil))) pa_nil)))))))
      (pss_cons (ps_set (i := 9) nd rfl (.inl rfl) (pe_op op_cat (pv 9) (pe_lst (pa_cons (pe_own claw_below (hr.mono (by decide)) (by rfl) (pa_cons (pv 4) (pa_cons (pv 5) (pa_cons (pe_op op_add (pv 6) pe_int) pa_nil)))) (pa_cons (pe_own claw_below (hr.mono (by decide)) (by rfl) (pa_cons (pv 4) (pa_cons (pv 5) (pa_cons (pe_op op_sub (pv 6) pe_int) pa_nil)))) (pa_cons (pe_callTy call_tuple_of (by rfl) B.tuple_ (by decide +kernel) (pa_cons (pv 7) pa_nil)) pa_nil))))))
      (pss_cons (ps_set (i := 9) nd rfl (.inl rfl) (pe_op op_cat (pv 9) (pe_lst (pa_cons pe_non (pa_cons pe_int (pa_cons pe_bl (pa_cons pe_str (pa_cons pe_dnewK (pa_cons (pe_lst (pa_cons (pv 7) pa_nil)) (pa_cons pe_str pa_nil))))))))))
      (pss_cons (ps_set (i := 9) nd rfl (.inl rfl) (pe_op op_cat (pv 9) (pe_lst (pa_cons (pe_op op_rep (pe_lst (pa_cons pe_int pa_nil)) (pe_callB call_len_seq (by rfl) B.len_ (by decide +kernel) (pa_cons (pv 4) pa_nil))) (pa_cons (pe_op op_rep (pe_lst (pa_cons (pe_callB call_len_seq (by rfl) B.len_ (by decide +kernel) (pa_cons (pv 5) pa_nil)) pa_nil)) (pe_callB call_len_seq (by rfl) B.len_ (by decide +kernel) (pa_cons (pv 4) pa_nil))) (pa_cons (pe_op op_rep (pe_lst (pa_cons (pe_callTy call_int1 (by rfl) B.int_ (by decide +kernel) (pa_cons (pe_cmpR (op_neD hu) (pv 4) (pe_lst pa_nil) (nomark _)) pa_nil)) pa_nil)) (pe_callB call_len_seq (by rfl) B.len_ (by decide +kernel) (pa_cons (pv 4) pa_nil))) pa_nil))))))
      (pss_cons (ps_for PassesOwn.never rfl (pi_list (pv 9)) (pg_name (i := 10) nd rfl (.inl rfl)) (pss_one (ps_if (pt_not (pt_val (Gd.pe_ownG claw_right ug (hr.mono (by decide)) (by rfl) (pa_cons (pv 4) (pa_cons (pv 5) (pa_cons (pv 6) (pa_cons (pv 7) (pa_cons (pv 10) pa_nil)))))))) (pss_one (ps_ret pe_bl)) pss_nil)))
      (pss_cons (ps_if (pt_not (pt_val (Gd.pe_ownG claw_beside_right ug (hr.mono (by decide)) (by rfl) (pa_cons (pv 1) (pa_cons (pv 4) (pa_cons (pv 5) (pa_cons (pv 6) (pa_cons (pv 7) pa_nil)))))))) (pss_one (ps_ret pe_bl)) pss_nil)
      (pss_cons (ps_if (pt_cmpR op_notN (pe_own cby_paper (hr.mono (by decide)) (by rfl) (pa_cons (pv 4) (pa_cons (pv 5) (pa_cons (pv 6) (pa_cons (pe_own claw_deep (hr.mono (by decide)) (by rfl) (pa_cons pe_int pa_nil)) pa_nil))))) pe_non (nomark _)) (pss_one (ps_ret pe_bl)) pss_nil)
      (pss_one (ps_set (i := 3) nd rfl (.inl rfl) (pe_op op_add (pv 3) pe_int))))))))))))))))
      (Evl.pss_cut (ps_if (PW.pt (pw_and (pt_cmpR op_eq (pv 2) pe_int (nomark _)) (pw_and1 (pt_not (pt_val (Gd.pe_ownG claw_more_right ug (hr.mono (by decide)) (by rfl) (pa_cons (pv 1) pa_nil))))))) (pss_one (ps_ret pe_bl)) pss_nil)
      (pss_one (ps_ret (pe_and (pe_cmpR op_isN (pe_own cby_paper (hr.mono (by decide)) (by rfl) (pa_cons (pe_lst (pa_cons pe_int pa_nil)) (pa_cons (pe_lst (pa_cons pe_int pa_nil)) (pa_cons pe_int (pa_cons (pe_own claw_deep (hr.mono (by decide)) (by rfl) (pa_cons pe_int pa_nil)) pa_nil))))) pe_non (nomark _)) (pe_one (pe_cmpR op_isN (pe_own cby_paper (hr.mono (by decide)) (by rfl) (pa_cons (pe_lst (pa_cons pe_int pa_nil)) (pa_cons (pe_lst (pa_cons pe_int pa_nil)) (pa_cons pe_int (pa_cons (pe_lst (pa_cons pe_bl pa_nil)) pa_nil))))) pe_non (nomark _)))))))))))), ?_⟩
    repeat walk_at "s"
    refine ⟨sc, ns, rfl, hS, hlen, fun a Ha sa na ha => ?_⟩
    repeat walk_at "s"
    refine ⟨a, _, rfl, (by walk_at "hand"), (by walk_at "pos"), ?_⟩
    intro r1 H1 x1 ra1 rb1 rc1
    have h1 := x1.hand ha
    refine ⟨fun σ' H' => DrawAt H' a ∧ σ' = [some (.ref sc), some (.ref a), some (.int r1), none, none, none, none, none, none, none, none], ?_, ?_⟩
    · repeat walk_at "s"
      refine ⟨rfl, _, rfl, ?_⟩
      refine ite2 (fun z => ?_) (fun z => ?_)
      · repeat walk_at "s"
        intro H2 x2
        repeat walk_at "s"
        exact ⟨x2.hand h1, rfl⟩
      · exact ⟨h1, rfl⟩
    rintro σ' H2 ⟨h2, rfl⟩
    · repeat walk_at "s"
      refine ⟨fun m σ H1 => ∃ (k : Nat) (v4 v5 v6 v7 v8 v9 v10 : Option V), m = 4 - k ∧ k ≤ 4 ∧ DrawAt H1 a ∧ σ = [some (.ref sc), some (.ref a), some (.int r1), some (.int (k : Int)), v4, v5, v6, v7, v8, v9, v10],
        ⟨_, 0, none, none, none, none, none, none, none, rfl, by decide, h2, rfl⟩, fun m σ H3 w => ?_⟩
      obtain ⟨k, v4, v5, v6, v7, v8, v9, v10, rfl, hk, h3, rfl⟩ := w
      refine test_split (fun H2 => DrawAt H2 a ∧ k < 4) (fun H2 => DrawAt H2 a) (fun KK kt kf => ?_) (fun H4 h4 => ?_) (fun H4 h4 => ?_)
      · repeat walk_at "s"
        by_cases c : (k : Int) < 1
        · rw [decide_eq_true c]
          exact kt H3 ⟨h3, by omega⟩
        · rw [decide_eq_false c]
          refine iteF ?_
          repeat walk_at "s"
          obtain ⟨ds, ed, rd⟩ := h3
          have h3 : DrawAt H3 a := ⟨ds, ed, rd⟩
          intro p5 np5
          generalize hg5 : upd H3 p5 _ = H5
          have s5 : Same H3 H5 := hg5 ▸ same_new np5
          have e5 := (congrFun hg5 p5).symm.trans upd_same
          clear hg5
          have n5 : p5 ≠ a := DrawAt.ne (by walk_at "hand") np5
          refine ⟨_, _, dp_ints (SqL.new (s5 _ _ ed)), dp_ints (ns := []) (SqL.new e5), shaped_ints _, shaped_ints _, ?_⟩
          rw [eqv_ints]
          refine ⟨_, rfl, ?_⟩
          by_cases z : ds = []
          · rw [decide_eq_true z]
            exact kf H5 (h3.same s5)
          · rw [decide_eq_false z]
            refine iteT ?_
            repeat walk_at "s"
            by_cases c3 : (k : Int) < 4
            · rw [decide_eq_true c3]
              exact kt H5 ⟨h3.same s5, by omega⟩
            · rw [decide_eq_false c3]
              exact kf H5 (h3.same s5)
      · obtain ⟨h4, k3⟩ := h4
        refine iteT ?_
        refine ⟨_, fun σ' H' k => k, ?_⟩
        repeat walk_at "s"
        refine ⟨a, 300, rfl, h4, by decide, fun p us H6 x6 np e6 l6 f6 => ?_⟩
        have h6 := x6.hand h4
        have npa : p ≠ a := DrawAt.ne h4 np
        repeat walk_at "s"
        refine ⟨a, 300, rfl, h6, by decide, fun t ws H7 x7 nt e7 l7 f7 => ?_⟩
        have h7 := x7.hand h6
        have nta : t ≠ a := DrawAt.ne h6 nt
        have RP : RowAt H7 a p us := ⟨x7.keep _ _ e6 npa, npa, f6, l6⟩
        have RQ : RowAt H7 a t ws := ⟨e7, nta, f7, l7⟩
        repeat walk_at "s"
        refine ⟨a, p, t, us, ws, rfl, h7, RP, RQ, fun n H8 x8 => ?_⟩
        have h8 := x8.hand h7
        have RP8 := RP.upD x8
        have RQ8 := RQ.upD x8
        repeat walk_at "s"
        refine ⟨p, t, us, ws, n, rfl, RP8.sq, RQ8.sq, f6.1, f7.1, by omega, fun d H9 s9 ndd ed => ?_⟩
        have h9 := h8.same s9
        have nda : d ≠ a := DrawAt.ne h8 ndd
        have RP9 := RP8.upD (.same s9)
        have RQ9 := RQ8.upD (.same s9)
        have lb := belowL_len us ws n
        have low := Rq.belowL_low (ns := us) (n := n) (show ws.length ≤ 1000 by omega)
        repeat walk_at "s"
        refine ⟨t, _, rfl, .inl RQ9.sq, ?_⟩
        rw [List.length_map]
        refine ⟨a, d, _, ws.length, rfl, h9, Rq.pl_ints ed nda low, by rw [List.length_map]; omega, by omega, fun p10 xs10 H10 x10 pl10 l10 => ?_⟩
        rw [List.length_map, lb] at l10
        have h10 := x10.hand h9
        have ed10 := x10.keep _ _ ed nda
        have RP10 := RP9.upD x10
        have RQ10 := RQ9.upD x10
        repeat walk_at "s"
        refine ⟨t, _, rfl, .inl RQ10.sq, ?_⟩
        rw [List.length_map]
        refine ⟨a, p10, _, ws.length, rfl, h10, pl10, by omega, by omega, fun p11 xs11 H11 x11 pl11 l11 => ?_⟩
        have h11 := x11.hand h10
        have ed11 := x11.keep _ _ ed10 nda
        have RP11 := RP10.upD x11
        have RQ11 := RQ10.upD x11
        have pl10' := pl10.ext x11
        repeat walk_at "s"
        intro p12 np12
        generalize hg12 : upd H11 p12 _ = H12
        have s12 : Same H11 H12 := hg12 ▸ same_new np12
        have e12 := (congrFun hg12 p12).symm.trans upd_same
        clear hg12
        have n12 : p12 ≠ a := DrawAt.ne (by walk_at "hand") np12
        repeat walk_at "s"
        intro p13 np13
        generalize hg13 : upd H12 p13 _ = H13
        have s13 : Same H12 H13 := hg13 ▸ same_new np13
        have e13 := (congrFun hg13 p13).symm.trans upd_same
        clear hg13
        have n13 : p13 ≠ a := DrawAt.ne (by walk_at "hand") np13
        have ed13 := s13 _ _ (s12 _ _ ed11)
        refine ⟨d, p13, _, _, rfl, rfl, ed13, e13, small (by simp; omega), ?_⟩
        intro p14 np14
        generalize hg14 : upd H13 p14 _ = H14
        have s14 : Same H13 H14 := hg14 ▸ same_new np14
        have e14 := (congrFun hg14 p14).symm.trans upd_same
        clear hg14
        have n14 : p14 ≠ a := DrawAt.ne (by walk_at "hand") np14
        have e14' : H14 p14 = some (.lst ((belowL us ws n ++ [0]).map V.int)) := by
          rw [e14, List.map_append]
          rfl
        clear e14
        repeat walk_at "s"
        intro p15 np15
        generalize hg15 : upd H14 p15 _ = H15
        have s15 : Same H14 H15 := hg15 ▸ same_new np15
        have e15 := (congrFun hg15 p15).symm.trans upd_same
        clear hg15
        have n15 : p15 ≠ a := DrawAt.ne (by walk_at "hand") np15
        have S15 : Same H11 H15 := s12.trans (s13.trans (s14.trans s15))
        have RP15 := RP11.upD (.same S15)
        have RQ15 := RQ11.upD (.same S15)
        repeat walk_at "s"
        refine ⟨p, t, us, ws, n + 1, rfl, RP15.sq, RQ15.sq, f6.1, f7.1, by omega, fun d1 H16 s16 nd1 ed1 => ?_⟩
        have RP16 := RP15.upD (.same s16)
        have RQ16 := RQ15.upD (.same s16)
        repeat walk_at "s"
        refine ⟨p, t, us, ws, n - 1, rfl, RP16.sq, RQ16.sq, f6.1, f7.1, by omega, fun d2 H17 s17 nd2 ed2 => ?_⟩
        have S17 := S15.trans (s16.trans s17)
        have ed17 := S17 _ _ ed11
        repeat walk_at "s"
        refine ⟨d, _, rfl, .inl ⟨SqL.new ed17, ?_⟩⟩
        intro p18 np18
        generalize hg18 : upd H17 p18 _ = H18
        have s18 : Same H17 H18 := hg18 ▸ same_new np18
        have e18 := (congrFun hg18 p18).symm.trans upd_same
        clear hg18
        have n18 : p18 ≠ a := DrawAt.ne (by walk_at "hand") np18
        repeat walk_at "s"
        intro p19 np19
        generalize hg19 : upd H18 p19 _ = H19
        have s19 : Same H18 H19 := hg19 ▸ same_new np19
        have e19 := (congrFun hg19 p19).symm.trans upd_same
        clear hg19
        have n19 : p19 ≠ a := DrawAt.ne (by walk_at "hand") np19
        have e15_18 := s18 _ _ (s17 _ _ (s16 _ _ e15))
        refine ⟨p15, p19, _, _, rfl, rfl, s19 _ _ e15_18, e19, small (by simp), ?_⟩
        intro p20 np20
        generalize hg20 : upd H19 p20 _ = H20
        have s20 : Same H19 H20 := hg20 ▸ same_new np20
        have e20 := (congrFun hg20 p20).symm.trans upd_same
        clear hg20
        have n20 : p20 ≠ a := DrawAt.ne (by walk_at "hand") np20
        repeat walk_at "s"
        intro p21 np21
        generalize hg21 : upd H20 p21 _ = H21
        have s21 : Same H20 H21 := hg21 ▸ same_new np21
        have e21 := (congrFun hg21 p21).symm.trans upd_same
        clear hg21
        have n21 : p21 ≠ a := DrawAt.ne (by walk_at "hand") np21
        repeat walk_at "s"
        intro p22 np22
        generalize hg22 : upd H21 p22 _ = H22
        have s22 : Same H21 H22 := hg22 ▸ same_new np22
        have e22 := (congrFun hg22 p22).symm.trans upd_same
        clear hg22
        have n22 : p22 ≠ a := DrawAt.ne (by walk_at "hand") np22
        repeat walk_at "s"
        intro p23 np23
        generalize hg23 : upd H22 p23 _ = H23
        have s23 : Same H22 H23 := hg23 ▸ same_new np23
        have e23 := (congrFun hg23 p23).symm.trans upd_same
        clear hg23
        have n23 : p23 ≠ a := DrawAt.ne (by walk_at "hand") np23
        have e20_23 := s23 _ _ (s22 _ _ (s21 _ _ e20))
        refine ⟨p20, p23, _, _, rfl, rfl, e20_23, e23, small (by simp), ?_⟩
        intro p24 np24
        generalize hg24 : upd H23 p24 _ = H24
        have s24 : Same H23 H24 := hg24 ▸ same_new np24
        have e24 := (congrFun hg24 p24).symm.trans upd_same
        clear hg24
        have n24 : p24 ≠ a := DrawAt.ne (by walk_at "hand") np24
        repeat walk_at "s"
        intro p25 np25
        generalize hg25 : upd H24 p25 _ = H25
        have s25 : Same H24 H25 := hg25 ▸ same_new np25
        have e25 := (congrFun hg25 p25).symm.trans upd_same
        clear hg25
        have n25 : p25 ≠ a := DrawAt.ne (by walk_at "hand") np25
        have S25 := S17.trans (s18.trans (s19.trans (s20.trans (s21.trans (s22.trans (s23.trans (s24.trans s25)))))))
        have RP25 := RP11.upD (.same S25)
        have RQ25 := RQ11.upD (.same S25)
        repeat walk_at "s"
        refine ⟨p, _, rfl, .inl RP25.sq, ?_⟩
        rw [List.length_map]
        refine ⟨p25, _, _, rfl, rfl, e25, by omega, by omega, small (by simp; omega), ?_⟩
        intro p26 np26
        generalize hg26 : upd H25 p26 _ = H26
        have s26 : Same H25 H26 := hg26 ▸ same_new np26
        have e26 := (congrFun hg26 p26).symm.trans upd_same
        clear hg26
        have n26 : p26 ≠ a := DrawAt.ne (by walk_at "hand") np26
        rw [rep_one, rep_int] at e26
        have RP26 := RP25.upD (.same s26)
        have RQ26 := RQ25.upD (.same s26)
        repeat walk_at "s"
        refine ⟨t, _, rfl, .inl RQ26.sq, ?_⟩
        rw [List.length_map]
        repeat walk_at "s"
        intro p27 np27
        generalize hg27 : upd H26 p27 _ = H27
        have s27 : Same H26 H27 := hg27 ▸ same_new np27
        have e27 := (congrFun hg27 p27).symm.trans upd_same
        clear hg27
        have n27 : p27 ≠ a := DrawAt.ne (by walk_at "hand") np27
        have RP27 := RP26.upD (.same s27)
        repeat walk_at "s"
        refine ⟨p, _, rfl, .inl RP27.sq, ?_⟩
        rw [List.length_map]
        refine ⟨p27, _, _, rfl, rfl, e27, by omega, by omega, small (by simp; omega), ?_⟩
        intro p28 np28
        generalize hg28 : upd H27 p28 _ = H28
        have s28 : Same H27 H28 := hg28 ▸ same_new np28
        have e28 := (congrFun hg28 p28).symm.trans upd_same
        clear hg28
        have n28 : p28 ≠ a := DrawAt.ne (by walk_at "hand") np28
        rw [rep_one, rep_int] at e28
        have RP28 := RP27.upD (.same s28)
        repeat walk_at "s"
        intro p29 np29
        generalize hg29 : upd H28 p29 _ = H29
        have s29 : Same H28 H29 := hg29 ▸ same_new np29
        have e29 := (congrFun hg29 p29).symm.trans upd_same
        clear hg29
        have n29 : p29 ≠ a := DrawAt.ne (by walk_at "hand") np29
        have RP29 := RP28.upD (.same s29)
        refine ⟨_, _, dp_ints RP29.sq, dp_ints (ns := []) (SqL.new e29), shaped_ints _, shaped_ints _, ?_⟩
        rw [eqv_ints]
        repeat walk_at "s"
        refine .inr ⟨_, rfl, ?_⟩
        obtain ⟨ob, ob1, ob2, hob⟩ : ∃ z : Int, 0 ≤ z ∧ z ≤ 1 ∧ (if (!decide (us = [])) = true then (1 : Int) else 0) = z := ⟨_, by split <;> omega, by split <;> omega, rfl⟩
        rw [hob]
        clear hob
        repeat walk_at "s"
        intro p30 np30
        generalize hg30 : upd H29 p30 _ = H30
        have s30 : Same H29 H30 := hg30 ▸ same_new np30
        have e30 := (congrFun hg30 p30).symm.trans upd_same
        clear hg30
        have n30 : p30 ≠ a := DrawAt.ne (by walk_at "hand") np30
        have RP30 := RP29.upD (.same s30)
        repeat walk_at "s"
        refine ⟨p, _, rfl, .inl RP30.sq, ?_⟩
        rw [List.length_map]
        refine ⟨p30, _, _, rfl, rfl, e30, by omega, by omega, small (by simp; omega), ?_⟩
        intro p31 np31
        generalize hg31 : upd H30 p31 _ = H31
        have s31 : Same H30 H31 := hg31 ▸ same_new np31
        have e31 := (congrFun hg31 p31).symm.trans upd_same
        clear hg31
        have n31 : p31 ≠ a := DrawAt.ne (by walk_at "hand") np31
        rw [rep_one, rep_int] at e31
        repeat walk_at "s"
        intro p32 np32
        generalize hg32 : upd H31 p32 _ = H32
        have s32 : Same H31 H32 := hg32 ▸ same_new np32
        have e32 := (congrFun hg32 p32).symm.trans upd_same
        clear hg32
        have n32 : p32 ≠ a := DrawAt.ne (by walk_at "hand") np32
        have S26_32 := s26.trans (s27.trans (s28.trans (s29.trans (s30.trans (s31.trans s32)))))
        refine ⟨p24, p32, _, _, rfl, rfl, S26_32 _ _ (s25 _ _ e24), e32, small (by simp), ?_⟩
        intro p33 np33
        generalize hg33 : upd H32 p33 _ = H33
        have s33 : Same H32 H33 := hg33 ▸ same_new np33
        have e33 := (congrFun hg33 p33).symm.trans upd_same
        clear hg33
        have n33 : p33 ≠ a := DrawAt.ne (by walk_at "hand") np33
        repeat walk_at "s"
        have h11_33 : Same H11 H33 := S25.trans (S26_32.trans s33)
        have lo1 := Rq.belowL_low (ns := us) (n := n + 1) (show ws.length ≤ 1000 by omega)
        have lo2 := Rq.belowL_low (ns := us) (n := n - 1) (show ws.length ≤ 1000 by omega)
        have lb1 := belowL_len us ws (n + 1)
        have lb2 := belowL_len us ws (n - 1)
        have ed33 := h11_33 _ _ ed11
        have all_ : ∀ x ∈ [V.ref d, V.ref p10, V.ref p11, V.ref p12, V.ref p14] ++ [V.ref d1, V.ref d2, V.ref p18] ++ [V.non, V.int 0, V.bl true, V.str (Str.ofString ""), V.ref p21, V.ref p22, V.str (Str.ofString "0 0")] ++ [V.ref p26, V.ref p28, V.ref p31], Rq.Tq K H33 x := fun x hx => by
          simp only [List.mem_append, List.mem_cons, List.not_mem_nil, or_false] at hx
          have S31 : Same H31 H33 := s32.trans s33
          have S28 : Same H28 H33 := s29.trans (s30.trans (s31.trans S31))
          have S26 : Same H26 H33 := s27.trans (s28.trans S28)
          have S22 : Same H22 H33 := s23.trans (s24.trans (s25.trans (s26.trans S26)))
          have S18 : Same H18 H33 := s19.trans (s20.trans (s21.trans (s22.trans S22)))
          have S14 : Same H14 H33 := s15.trans (s16.trans (s17.trans (s18.trans S18)))
          have ofRep : ∀ (m : Nat) (y : Int), -1000 ≤ y → y ≤ 1000 → Rq.Low (List.replicate m y) := fun m y h1 h2 z hz => by
            obtain ⟨_, rfl⟩ := List.mem_replicate.mp hz
            omega
          rcases hx with (((rfl | rfl | rfl | rfl | rfl) | (rfl | rfl | rfl)) | (rfl | rfl | rfl | rfl | rfl | rfl | rfl)) | (rfl | rfl | rfl)
          · exact Rq.ints_tq ed33 low (by omega)
          · exact (Rq.pl_thD (pl10'.ext (.same h11_33)) (by omega)).tq
          · exact (Rq.pl_thD (pl11.ext (.same h11_33)) (by omega)).tq
          · exact Rq.ints_tq (ns := []) (S14 _ _ (s14 _ _ (s13 _ _ e12))) (fun z hz => nomatch hz) (by decide)
          · refine Rq.ints_tq (S14 _ _ e14') (fun z hz => ?_) (by rw [List.length_append]; simp; omega)
            rcases List.mem_append.mp hz with hz | hz
            · exact low z hz
            · obtain rfl := List.mem_singleton.mp hz
              omega
          · exact Rq.ints_tq (S18 _ _ (s18 _ _ (s17 _ _ ed1))) lo1 (by omega)
          · exact Rq.ints_tq (S18 _ _ (s18 _ _ ed2)) lo2 (by omega)
          · exact Rq.tup_tq (S18 _ _ e18) low (by omega)
          · exact Rq.flat_tq (fun H' => .non) (fun H' => .non) (fun p h => by cases h)
          · exact Rq.flat_tq (fun H' => .int (by decide)) (fun H' => .int 0) (fun p h => by cases h)
          · exact Rq.flat_tq (fun H' => .bl true) (fun H' => .bl true) (fun p h => by cases h)
          · exact Rq.flat_tq (fun H' => .str (by decide)) (fun H' => .str _) (fun p h => by cases h)
          · exact Rq.emp_tq (S22 _ _ (s22 _ _ e21))
          · exact Rq.in_tq (S22 _ _ e22) ed33 low (by omega)
          · exact Rq.flat_tq (fun H' => .str (Nat.le_trans (StrLaws.reprText_len (Str.ofString "0 0") (by decide)) (by decide))) (fun H' => .str _) (fun p h => by cases h)
          · exact Rq.ints_tq (S26 _ _ e26) (ofRep _ _ (by omega) (by omega)) (by simp; omega)
          · exact Rq.ints_tq (S28 _ _ e28) (ofRep _ _ (by omega) (by omega)) (by simp; omega)
          · exact Rq.ints_tq (S31 _ _ e31) (ofRep _ _ (by omega) (by omega)) (by simp; omega)
        have RP33 := RP11.upD (.same h11_33)
        have RQ33 := RQ11.upD (.same h11_33)
        have h33 := h11.same h11_33
        clear e12 e13 e14' e15 e18 e19 e20 e21 e22 e23 e24 e25 e26 e27 e28 e29 e30 e31 e32 s12 s13 s14 s15 s16 s17 s18 s19 s20 s21 s22 s23 s24 s25 s26 s27 s28 s29 s30 s31 s32 s33 S25 S26_32 S15 S17 e15_18 e20_23 ed13 ed17
        generalize hxs : [V.ref d, V.ref p10, V.ref p11, V.ref p12, V.ref p14] ++ [V.ref d1, V.ref d2, V.ref p18] ++ [V.non, V.int 0, V.bl true, V.str (Str.ofString ""), V.ref p21, V.ref p22, V.str (Str.ofString "0 0")] ++ [V.ref p26, V.ref p28, V.ref p31] = xs33 at e33 all_
        clear hxs
        refine ⟨⟨_, SqL.new e33⟩, ?_⟩
        refine for_list (K := K) (a := p33) (xs := xs33) (fun i σ H' => Same H33 H' ∧ ∃ v10 : Option V, σ = [some (.ref sc), some (.ref a), some (.int r1), some (.int (k : Int)), some (.ref p), some (.ref t), some (.int n), some (.ref d), some (.ref p10), some (.ref p33), v10]) ⟨Same.refl _, _, rfl⟩ (fun i σ Hi _ w => w.1.seq (SqL.new e33)) (fun i x σ Hi hx w => ?_) (fun σ Hi w => ?_)
        · obtain ⟨si, v10, rfl⟩ := w
          have RPi := RP33.upD (.same si)
          have RQi := RQ33.upD (.same si)
          have tqi := (all_ x (List.mem_of_getElem? hx)).up si
          repeat walk_at "s"
          refine ⟨p, t, d, us, ws, n, x, rfl, RPi.1, RQi.1, f6.1, f7.1, by omega, by omega, si _ _ ed33, tqi, fun H34 s34 => ?_⟩
          repeat walk_at "s"
          first | exact ⟨si.trans s34, _, rfl⟩ | exact ⟨_, rfl⟩
        · obtain ⟨si, v10, rfl⟩ := w
          have hi := h33.same si
          have RPi := RP33.upD (.same si)
          have RQi := RQ33.upD (.same si)
          have edi := si _ _ ed33
          repeat walk_at "s"
          refine ⟨a, p, t, d, us, ws, n, rfl, hi, npa, nta, nda, RPi.1, RQi.1, f6.1, f7.1, by omega, by omega, edi, fun H34 x34 => ?_⟩
          have h34 := x34.hand hi
          have RP34 := RPi.upD x34
          have RQ34 := RQi.upD x34
          repeat walk_at "s"
          intro td t' zs H35 s35 ntd etd et'
          have h35 := h34.same s35
          have RP35 := RP34.upD (.same s35)
          have RQ35 := RQ34.upD (.same s35)
          repeat walk_at "s"
          refine ⟨p, t, us, ws, n, .ref td, rfl, RP35.sq, RQ35.sq, f7.1, by omega, .inl ⟨td, _, rfl, SqL.new etd, fun y hy => ?_, fun b H36 hb s36 => ?_⟩⟩
          · obtain rfl := List.mem_singleton.mp hy
            exact .inr (Rq.ni_lst et')
          · obtain rfl : b = false := by
              cases b with
              | false => rfl
              | true =>
                have h1 := hb.mp rfl
                have h2 : V.ref t' ∈ (belowL us ws n).map V.int := by rw [← h1]; exact List.mem_singleton.mpr rfl
                obtain ⟨z, _, hz⟩ := List.mem_map.mp h2
                cases hz
            have h36 := h35.same s36
            repeat walk_at "s"
            exact ⟨4 - (k + 1), by omega, k + 1, _, _, _, _, _, _, _, rfl, by omega, h36, rfl⟩
      · refine iteF ?_
        repeat walk_at "s"
        refine ⟨fun σ' _ => σ' = [some (.ref sc), some (.ref a), some (.int r1), some (.int (k : Int)), v4, v5, v6, v7, v8, v9, v10], ?_, ?_⟩
        · repeat walk_at "s"
          refine ⟨rfl, _, rfl, ?_⟩
          refine ite2 (fun z => ?_) (fun z => ?_)
          · repeat walk_at "s"
            intro H5 x5
            repeat walk_at "s"
            try rfl
          · rfl
        · rintro σ' H5 rfl
          have kno : ∀ y ∈ ([1] : List Int).map V.int, Kn K H5 y := fun y hy => .inl ⟨1, List.mem_singleton.mp hy⟩
          repeat walk_at "s"
          intro p6 np6
          generalize hg6 : upd H5 p6 _ = H6
          have s6 : Same H5 H6 := hg6 ▸ same_new np6
          have e6 := (congrFun hg6 p6).symm.trans upd_same
          clear hg6
          repeat walk_at "s"
          intro p7 np7
          generalize hg7 : upd H6 p7 _ = H7
          have s7 : Same H6 H7 := hg7 ▸ same_new np7
          have e7 := (congrFun hg7 p7).symm.trans upd_same
          clear hg7
          repeat walk_at "s"
          intro td t' zs H8 s8 ntd etd et'
          repeat walk_at "s"
          refine ⟨p6, p7, [1], [1], 3, .ref td, rfl, SqL.new (s8 _ _ (s7 _ _ e6)), SqL.new (s8 _ _ e7), List.pairwise_singleton _ _, by decide, .inl ⟨td, _, rfl, SqL.new etd, fun y hy => ?_, fun b H9 hb s9 => ?_⟩⟩
          · obtain rfl := List.mem_singleton.mp hy
            exact .inr (Rq.ni_lst et')
          · obtain rfl : b = false := by
              cases b with
              | false => rfl
              | true =>
                have h1 := hb.mp rfl
                have h2 : V.ref t' ∈ (belowL [1] [1] 3).map V.int := by rw [← h1]; exact List.mem_singleton.mpr rfl
                obtain ⟨z, _, hz⟩ := List.mem_map.mp h2
                cases hz
            repeat walk_at "s"
            intro p10 np10
            generalize hg10 : upd H9 p10 _ = H10
            have s10 : Same H9 H10 := hg10 ▸ same_new np10
            have e10 := (congrFun hg10 p10).symm.trans upd_same
            clear hg10
            repeat walk_at "s"
            intro p11 np11
            generalize hg11 : upd H10 p11 _ = H11
            have s11 : Same H10 H11 := hg11 ▸ same_new np11
            have e11 := (congrFun hg11 p11).symm.trans upd_same
            clear hg11
            repeat walk_at "s"
            intro p12 np12
            generalize hg12 : upd H11 p12 _ = H12
            have s12 : Same H11 H12 := hg12 ▸ same_new np12
            have e12 := (congrFun hg12 p12).symm.trans upd_same
            clear hg12
            repeat walk_at "s"
            refine ⟨p10, p11, [1], [1], 3, .ref p12, rfl, SqL.new (s12 _ _ (s11 _ _ e10)), SqL.new (s12 _ _ e11), List.pairwise_singleton _ _, by decide, .inl ⟨p12, _, rfl, SqL.new e12, fun y hy => ?_, fun b H13 hb s13 => ?_⟩⟩
            · obtain rfl := List.mem_singleton.mp hy
              exact .inr ⟨"bool", by decide, .base (.bl _)⟩
            · obtain rfl : b = false := by
                cases b with
                | false => rfl
                | true =>
                  have h1 := hb.mp rfl
                  have h2 : V.bl true ∈ (belowL [1] [1] 3).map V.int := by rw [← h1]; exact List.mem_singleton.mpr rfl
                  obtain ⟨z, _, hz⟩ := List.mem_map.mp h2
                  cases hz
              repeat walk_at "s"
              exact q H13

theorem ok_rowd {f : Addr} {fd : FuncData} (B : Bt mg) (F : Fun K "_law_row" "_law_row" slaw_row f fd) (claw_take : Cal P w K mg base 1 "_law_take" ["draws", "many"] spTake) : FnOk P w K mg base CX0 2 f fd ["draws", "most"] spRowD := by
  have nd := sclaw_row.nd
  refine F.ok sclaw_row (fun vs H Q E h => ?_) (fun cdv A outer s H vs Q E hr h => ?_)
  · obtain ⟨a, m, rfl, _⟩ := h
    rfl
  · obtain ⟨a, M, rfl, h0, hM, q⟩ := h
    have hu := hr.units
    have t15 : (10 : Int) ^ Int.toNat 15 = 1000000000000000 := by decide
    have t12 : (10 : Int) ^ Int.toNat 12 = 1000000000000 := by decide
    have t6 : (10 : Int) ^ Int.toNat 6 = 1000000 := by decide
    refine ⟨_, (pss_cons (ps_set (i := 2) nd rfl (.inl rfl) (pe_callB (call_min2 rfl) (by rfl) B.min_ (by decide +kernel) (pa_cons (pv 1) (pa_cons (pe_own claw_take (hr.mono (by decide)) (by rfl) (pa_cons (pv 0) (pa_cons pe_int pa_nil))) pa_nil))))
      (Evl.pss_cut (ps_if (pt_cmpR op_eq (pe_own claw_take (hr.mono (by decide)) (by rfl) (pa_cons (pv 0) (pa_cons pe_int pa_nil))) pe_int (nomark _)) (pss_one (ps_set (i := 2) nd rfl (.inl rfl) (pe_ix ix_list (pe_lst (pa_cons (pv 1) (pa_cons (pe_own claw_take (hr.mono (by decide)) (by rfl) (pa_cons (pv 0) (pa_cons (pe_op op_add (pv 1) pe_int) pa_nil))) pa_nil))) (pe_own claw_take (hr.mono (by decide)) (by rfl) (pa_cons (pv 0) (pa_cons pe_int pa_nil))) (fun _ _ => rfl)))) pss_nil)
      (pss_cons (ps_set (i := 3) nd rfl (.inl rfl) (pe_lst (pa_cons pe_int (pa_cons pe_int (pa_cons pe_int (pa_cons pe_int (pa_cons pe_int (pa_cons (pe_op op_pow pe_int pe_int) (pa_cons (pe_op op_pow pe_int pe_int) (pa_cons (pe_op op_fdivW (pe_op op_pow pe_int pe_int) pe_int) pa_nil))))))))))
      (pss_cons (ps_set (i := 4) nd rfl (.inl rfl) (pe_ix ix_list (pv 3) (pe_own claw_take (hr.mono (by decide)) (by rfl) (pa_cons (pv 0) (pa_cons pe_int pa_nil))) (fun _ _ => rfl)))
      (pss_cons (ps_set (i := 5) nd rfl (.inl rfl) (pe_cmpR op_eq (pe_own claw_take (hr.mono (by decide)) (by rfl) (pa_cons (pv 0) (pa_cons pe_int pa_nil))) pe_int (nomark _)))
      (pss_cons (ps_set (i := 6) nd rfl (.inl rfl) (pe_op op_sub (pv 4) pe_int))
      (Evl.pss_cut (ps_if (PW.pt (pw_or (pt_val (pv 5)) (pw_or1 (pt_cmpR op_gt (pv 4) pe_int (nomark _))))) (pss_one (ps_set (i := 6) nd rfl (.inl rfl) (pe_ix ix_list (pv 3) pe_int (fun _ _ => rfl)))) pss_nil)
      (pss_cons (ps_set (i := 7) nd rfl (.inl rfl) (pe_op op_mulW (pe_op op_sub (pe_own claw_take (hr.mono (by decide)) (by rfl) (pa_cons (pv 0) (pa_cons pe_int pa_nil))) pe_int) (pe_ix ix_list (pe_lst (pa_cons pe_int (pa_cons pe_int (pa_cons (pe_op op_pow pe_int pe_int) (pa_cons (pe_op op_sub (pe_op op_pow pe_int pe_int) pe_int) pa_nil))))) (pe_own claw_take (hr.mono (by decide)) (by rfl) (pa_cons (pv 0) (pa_cons pe_int pa_nil))) (fun _ _ => rfl))))
      (pss_cons (ps_set (i := 8) nd rfl (.inl rfl) (pe_op op_sub (pe_op op_pow pe_int pe_int) (pe_op op_mulW (pv 6) (pv 2))))
      (pss_cons (ps_set (i := 7) nd rfl (.inl rfl) (pe_ix ix_list (pe_lst (pa_cons (pe_callB (call_min2 rfl) (by rfl) B.min_ (by decide +kernel) (pa_cons (pv 8) (pa_cons (pv 7) pa_nil))) (pa_cons (pe_op op_sub pe_int (pe_op op_pow pe_int pe_int)) (pa_cons (pv 8) (pa_cons (pe_op op_sub (pe_own claw_take (hr.mono (by decide)) (by rfl) (pa_cons (pv 0) (pa_cons pe_int pa_nil))) pe_int) pa_nil))))) (pe_own claw_take (hr.mono (by decide)) (by rfl) (pa_cons (pv 0) (pa_cons pe_int pa_nil))) (fun _ _ => rfl)))
      (pss_cons (ps_set (i := 9) nd rfl (.inl rfl) (pe_own claw_take (hr.mono (by decide)) (by rfl) (pa_cons (pv 0) (pa_cons pe_int pa_nil))))
      (pss_cons (ps_set (i := 10) nd rfl (.inl rfl) (pe_op op_add pe_int (pe_own claw_take (hr.mono (by decide)) (by rfl) (pa_cons (pv 0) (pa_cons pe_int pa_nil)))))
      (pss_cons (ps_set (i := 11) nd rfl (.inl rfl) (pe_ix ix_list (pe_lst (pa_cons pe_int (pa_cons pe_int (pa_cons (pe_op op_add pe_int (pe_own claw_take (hr.mono (by decide)) (by rfl) (pa_cons (pv 0) (pa_cons pe_int pa_nil)))) pa_nil)))) (pe_own claw_take (hr.mono (by decide)) (by rfl) (pa_cons (pv 0) (pa_cons pe_int pa_nil))) (fun _ _ => rfl)))
      (pss_cons (ps_set (i := 12) nd rfl (.inl rfl) (pe_lst pa_nil))
      (pss_cons (ps_for PassesOwn.never rfl (pi_range1 (by rfl) B.range_ (pa_cons (pv 2) pa_nil)) (pg_name (i := 13) nd rfl (.inl rfl)) (pss_cons (ps_set (i := 14) nd rfl (.inl rfl) (pe_op op_mod (pe_op op_add (pe_op op_add (pe_op op_mulW (pe_op op_mulW (pv 13) (pv 13)) (pv 9)) (pe_op op_mulW (pv 13) (pv 10))) (pe_op op_mulW (pe_op op_fdivW (pv 13) pe_int) pe_int)) pe_int))
      (Evl.pss_cut (ps_if (pt_val (pv 5)) (pss_one (ps_set (i := 4) nd rfl (.inl rfl) (pe_ix ix_list (pv 3) (pe_op op_mod (pe_op op_add (pv 14) (pe_op op_mulW (pv 13) (pv 13))) pe_int) (fun _ _ => rfl)))) pss_nil)
      (Evl.pss_cut (ps_if (pt_cmpR op_lt (pv 2) pe_int (nomark _)) (pss_one (ps_set (i := 14) nd rfl (.inl rfl) (pe_own claw_take (hr.mono (by decide)) (by rfl) (pa_cons (pv 0) (pa_cons pe_int pa_nil))))) pss_nil)
      (Evl.pss_cut (ps_if (PW.pt (pw_or (pt_cmpR op_lt (pv 2) pe_int (nomark _)) (pw_or1 (pt_cmpR op_eq (pe_op op_mod (pv 13) (pv 11)) pe_int (nomark _))))) (pss_one (ps_set (i := 7) nd rfl (.inl rfl) (pe_op op_add (pv 7) (pe_ix ix_list (pe_lst (pa_cons (pe_op op_mod (pv 14) (pv 4)) (pa_cons (pe_op op_add (pe_op op_mulW (pv 14) (pe_op op_fdivW (pv 4) pe_int)) (pe_op op_mod (pv 14) pe_int)) pa_nil))) (pe_callTy call_int1 (by rfl) B.int_ (by decide +kernel) (pa_cons (pe_cmpR op_gt (pv 4) pe_int (nomark _)) pa_nil)) (fun _ _ => rfl))))) pss_nil)
      (pss_one (ps_expr (pe_bm PySem.F.plainAttrs_list PySem.F.slot_list_append PySem.F.type_list_append mt_append (pv 12) (pa_cons (pv 7) pa_nil)))))))))
      (pss_one (ps_ret (pv 12)))))))))))))))))), ?_⟩
    repeat walk_at "s"
    refine ⟨a, _, rfl, (by walk_at "hand"), (by walk_at "pos"), ?_⟩
    intro r1 H1 x1 ra1 rb1 rc1
    refine ⟨_, _, rfl, ?_⟩
    obtain ⟨m1, hm1, b1⟩ : ∃ k : Nat, (if r1 < (M : Int) then r1 else (M : Int)) = (k : Int) ∧ k ≤ M := by
      split
      · exact ⟨r1.toNat, by omega, by omega⟩
      · exact ⟨M, rfl, Nat.le_refl _⟩
    rw [hm1]
    -- many
    refine ⟨fun σ' H' => ∃ (m : Nat), m ≤ M ∧ ExtD a H H' ∧ σ' = [some (.ref a), some (.int (M : Int)), some (.int (m : Int)), none, none, none, none, none, none, none, none, none, none, none, none], ?_, ?_⟩
    · repeat walk_at "s"
      refine ⟨a, _, rfl, (by walk_at "hand"), (by walk_at "pos"), ?_⟩
      intro r2 H2 x2 ra2 rb2 rc2
      repeat walk_at "s"
      refine ⟨rfl, _, rfl, ?_⟩
      refine ite2 (fun z => ?_) (fun z => ?_)
      · repeat walk_at "s"
        refine ⟨a, _, rfl, (by walk_at "hand"), (by walk_at "pos"), ?_⟩
        intro r3 H3 x3 ra3 rb3 rc3
        repeat walk_at "s"
        intro p4 np4
        generalize hg4 : upd H3 p4 _ = H4
        have s4 : Same H3 H4 := hg4 ▸ same_new np4
        have e4 := (congrFun hg4 p4).symm.trans upd_same
        clear hg4
        have n4 : p4 ≠ a := DrawAt.ne (by walk_at "hand") np4
        repeat walk_at "s"
        refine ⟨a, _, rfl, (by walk_at "hand"), (by walk_at "pos"), ?_⟩
        intro r5 H5 x5 ra5 rb5 rc5
        obtain ⟨m2, hm2, b2⟩ : ∃ k : Nat, atI [V.int (M : Int), V.int r3] r5 = some (.int (k : Int)) ∧ k ≤ M := by
          obtain ⟨x, h1, h2⟩ := at_draw (xs := [V.int (M : Int), V.int r3]) ra5 rb5
          simp only [List.mem_cons, List.not_mem_nil, or_false] at h2
          rcases h2 with rfl | rfl
          · exact ⟨M, h1, Nat.le_refl _⟩
          · exact ⟨r3.toNat, by rw [show ((r3.toNat : Nat) : Int) = r3 from by omega]; exact h1, by omega⟩
        refine ⟨_, _, _, _, rfl, rfl, SqL.new (x5.keep _ _ e4 n4), hm2, ?_⟩
        exact ⟨m2, b2, (((x1.trans x2).trans x3).trans (.same s4)).trans x5, rfl⟩
      · exact ⟨m1, b1, x1.trans x2, rfl⟩
    rintro σ' H5 ⟨m, bm, X5, rfl⟩
    have h5 := X5.hand h0
    -- bases
    repeat walk_at "s"
    intro p6 np6
    generalize hg6 : upd H5 p6 _ = H6
    have s6 : Same H5 H6 := hg6 ▸ same_new np6
    have e6 := (congrFun hg6 p6).symm.trans upd_same
    clear hg6
    have n6 : p6 ≠ a := DrawAt.ne (by walk_at "hand") np6
    have e6' : H6 p6 = some (.lst (baseL.map V.int)) := e6
    clear e6
    repeat walk_at "s"
    refine ⟨a, _, rfl, (by walk_at "hand"), (by walk_at "pos"), ?_⟩
    intro r7 H7 x7 ra7 rb7 rc7
    obtain ⟨b, hb, mb⟩ : ∃ b : Int, atI (baseL.map V.int) r7 = some (.int b) ∧ b ∈ baseL := by
      obtain ⟨x, h1, h2⟩ := at_draw (xs := baseL.map V.int) ra7 rb7
      obtain ⟨b, hb, rfl⟩ := List.mem_map.mp h2
      exact ⟨b, h1, hb⟩
    have e67 := x7.keep _ _ e6' n6
    refine ⟨_, _, _, _, rfl, rfl, SqL.new e67, hb, ?_⟩
    repeat walk_at "s"
    refine ⟨a, _, rfl, (by walk_at "hand"), (by walk_at "pos"), ?_⟩
    intro r8 H8 x8 ra8 rb8 rc8
    repeat walk_at "s"
    refine ⟨rfl, ?_⟩
    repeat walk_at "s"
    obtain ⟨mx, hmx⟩ : ∃ c : Bool, decide (V.int r8 = V.int 1) = c := ⟨_, rfl⟩
    rw [hmx]
    have X8 : ExtD a H H8 := ((X5.trans (.same s6)).trans x7).trans x8
    have e68 := x8.keep _ _ e67 n6
    -- most_step
    refine ⟨fun σ' H' => ∃ ms : Int, H' = H8 ∧ OkB b ms ∧ (mx = true → ms = 3322259136212) ∧ 0 ≤ ms ∧ ms ≤ 3322259136212 ∧ σ' = [some (.ref a), some (.int (M : Int)), some (.int (m : Int)), some (.ref p6), some (.int b), some (.bl mx), some (.int ms), none, none, none, none, none, none, none, none], ?_, ?_⟩
    · have ok := okB_big mb
      have at7 : atI (baseL.map V.int) 7 = some (.int 3322259136212) := atI_nat (j := 7) rfl
      repeat walk_at "s"
      cases mx with
      | true =>
        refine iteT ?_
        repeat walk_at "s"
        refine ⟨_, _, _, _, rfl, rfl, SqL.new e68, at7, ?_⟩
        exact ⟨_, rfl, ok, fun _ => rfl, by decide, by decide, rfl⟩
      | false =>
        refine iteF ?_
        repeat walk_at "s"
        refine ite2 (fun z => ?_) (fun z => ?_)
        · repeat walk_at "s"
          refine ⟨_, _, _, _, rfl, rfl, SqL.new e68, at7, ?_⟩
          exact ⟨_, rfl, ok, fun _ => rfl, by decide, by decide, rfl⟩
        · have z1 : ¬ 1000 < b := fun k => z (decide_eq_true k)
          have pos : 0 < b ∧ b ≤ 1000 := by
            rcases ok with ⟨k1, k2, _⟩ | ⟨k1, _⟩
            · exact ⟨k1, k2⟩
            · omega
          exact ⟨b - 1, rfl, .inl ⟨pos.1, pos.2, Int.le_refl _⟩, (fun k => nomatch k), by omega, by omega, rfl⟩
    rintro σ' H8' ⟨ms, hH, okb, hms, ms0, ms1, rfl⟩
    have hH := hH.symm
    subst hH
    -- number
    have tm := Int.mul_le_mul ms1 (show (m : Int) ≤ 300 by omega) (show 0 ≤ (m : Int) by omega) (by decide)
    have tm0 := Int.mul_nonneg ms0 (show 0 ≤ (m : Int) by omega)
    obtain ⟨top, htop⟩ : ∃ t : Int, 1000000000000000 - ms * (m : Int) = t := ⟨_, rfl⟩
    have htop' : (10 : Int) ^ Int.toNat 15 - ms * (m : Int) = top := by rw [t15]; exact htop
    repeat walk_at "s"
    refine ⟨a, _, rfl, (by walk_at "hand"), (by walk_at "pos"), ?_⟩
    intro r9 H9 x9 ra9 rb9 rc9
    repeat walk_at "s"
    intro p10 np10
    generalize hg10 : upd H9 p10 _ = H10
    have s10 : Same H9 H10 := hg10 ▸ same_new np10
    have e10 := (congrFun hg10 p10).symm.trans upd_same
    clear hg10
    have n10 : p10 ≠ a := DrawAt.ne (by walk_at "hand") np10
    repeat walk_at "s"
    refine ⟨a, _, rfl, (by walk_at "hand"), (by walk_at "pos"), ?_⟩
    intro r11 H11 x11 ra11 rb11 rc11
    obtain ⟨c1, hc1, c10, c11⟩ : ∃ k : Int, atI [V.int 1, V.int 1000, V.int (10 ^ Int.toNat 6), V.int (10 ^ Int.toNat 12 - 1)] r11 = some (.int k) ∧ 0 ≤ k ∧ k ≤ 999999999999 := by
      obtain ⟨x, h1, h2⟩ := at_draw (xs := [V.int 1, V.int 1000, V.int (10 ^ Int.toNat 6), V.int (10 ^ Int.toNat 12 - 1)]) ra11 rb11
      simp only [List.mem_cons, List.not_mem_nil, or_false] at h2
      rcases h2 with rfl | rfl | rfl | rfl
      all_goals exact ⟨_, h1, by decide, by decide⟩
    refine ⟨_, _, _, _, rfl, rfl, SqL.new (x11.keep _ _ e10 n10), hc1, ?_⟩
    repeat walk_at "s"
    have lowp : -1000000000000000 ≤ (r9 - 500) * c1 := by
      by_cases k : 0 ≤ r9 - 500
      · have := Int.mul_nonneg k c10
        omega
      · have k2 := Int.mul_le_mul_of_nonneg_left c11 (show 0 ≤ 500 - r9 by omega)
        have k3 := Int.mul_le_mul_of_nonneg_right (show 500 - r9 ≤ 500 by omega) (show (0 : Int) ≤ 999999999999 by decide)
        have k4 : (r9 - 500) * c1 = -((500 - r9) * c1) := by rw [← Int.neg_mul]; congr 1; omega
        omega
    -- top, number
    dsimp only
    rw [htop']
    repeat walk_at "s"
    refine ⟨_, _, rfl, ?_⟩
    obtain ⟨n0, hn0, n01, n02⟩ : ∃ k : Int, (if (r9 - 500) * c1 < top then (r9 - 500) * c1 else top) = k ∧ -1000000000000000 ≤ k ∧ k ≤ top := ⟨_, rfl, by split <;> omega, by split <;> omega⟩
    rw [hn0]
    repeat walk_at "s"
    refine ⟨a, _, rfl, (by walk_at "hand"), (by walk_at "pos"), ?_⟩
    intro r12 H12 x12 ra12 rb12 rc12
    repeat walk_at "s"
    intro p13 np13
    generalize hg13 : upd H12 p13 _ = H13
    have s13 : Same H12 H13 := hg13 ▸ same_new np13
    have e13 := (congrFun hg13 p13).symm.trans upd_same
    clear hg13
    have n13 : p13 ≠ a := DrawAt.ne (by walk_at "hand") np13
    repeat walk_at "s"
    refine ⟨a, _, rfl, (by walk_at "hand"), (by walk_at "pos"), ?_⟩
    intro r14 H14 x14 ra14 rb14 rc14
    obtain ⟨n1, hn1, n11, n12⟩ : ∃ k : Int, atI [V.int n0, V.int (0 - 10 ^ Int.toNat 15), V.int top, V.int (r12 - 10)] r14 = some (.int k) ∧ -1000000000000000 ≤ k ∧ k ≤ top := by
      obtain ⟨x, h1, h2⟩ := at_draw (xs := [V.int n0, V.int (0 - 10 ^ Int.toNat 15), V.int top, V.int (r12 - 10)]) ra14 rb14
      simp only [List.mem_cons, List.not_mem_nil, or_false] at h2
      rcases h2 with rfl | rfl | rfl | rfl
      · exact ⟨_, h1, n01, n02⟩
      · exact ⟨_, h1, by omega, by omega⟩
      · exact ⟨_, h1, by omega, Int.le_refl _⟩
      · exact ⟨_, h1, by omega, by omega⟩
    refine ⟨_, _, _, _, rfl, rfl, SqL.new (x14.keep _ _ e13 n13), hn1, ?_⟩
    -- one, other, likes
    repeat walk_at "s"
    refine ⟨a, _, rfl, (by walk_at "hand"), (by walk_at "pos"), ?_⟩
    intro r15 H15 x15 ra15 rb15 rc15
    repeat walk_at "s"
    refine ⟨a, _, rfl, (by walk_at "hand"), (by walk_at "pos"), ?_⟩
    intro r16 H16 x16 ra16 rb16 rc16
    repeat walk_at "s"
    refine ⟨a, _, rfl, (by walk_at "hand"), (by walk_at "pos"), ?_⟩
    intro r17 H17 x17 ra17 rb17 rc17
    repeat walk_at "s"
    intro p18 np18
    generalize hg18 : upd H17 p18 _ = H18
    have s18 : Same H17 H18 := hg18 ▸ same_new np18
    have e18 := (congrFun hg18 p18).symm.trans upd_same
    clear hg18
    have n18 : p18 ≠ a := DrawAt.ne (by walk_at "hand") np18
    repeat walk_at "s"
    refine ⟨a, _, rfl, (by walk_at "hand"), (by walk_at "pos"), ?_⟩
    intro r19 H19 x19 ra19 rb19 rc19
    obtain ⟨lk, hlk, lk0⟩ : ∃ k : Int, atI [V.int 1, V.int 1, V.int (1 + r17)] r19 = some (.int k) ∧ 0 < k := by
      obtain ⟨x, h1, h2⟩ := at_draw (xs := [V.int 1, V.int 1, V.int (1 + r17)]) ra19 rb19
      simp only [List.mem_cons, List.not_mem_nil, or_false] at h2
      rcases h2 with rfl | rfl | rfl
      all_goals exact ⟨_, h1, by omega⟩
    refine ⟨_, _, _, _, rfl, rfl, SqL.new (x19.keep _ _ e18 n18), hlk, ?_⟩
    repeat walk_at "s"
    intro p20 np20
    generalize hg20 : upd H19 p20 _ = H20
    have s20 : Same H19 H20 := hg20 ▸ same_new np20
    have e20 := (congrFun hg20 p20).symm.trans upd_same
    clear hg20
    have n20 : p20 ≠ a := DrawAt.ne (by walk_at "hand") np20
    have X8b : ExtD a H8 H19 := (((((((((x9.trans (.same s10)).trans x11).trans x12).trans (.same s13)).trans x14).trans x15).trans x16).trans x17).trans (.same s18)).trans x19
    have X19 : ExtD a H H19 := X8.trans X8b
    have e6b := X8b.keep _ _ e68 n6
    have h19 := X19.hand h0
    have at7 : ∀ r : Int, 0 ≤ r → r < 8 → ∃ b : Int, atI (baseL.map V.int) r = some (.int b) ∧ b ∈ baseL := fun r ra rb => by
      obtain ⟨x, h1, h2⟩ := at_draw (xs := baseL.map V.int) ra rb
      obtain ⟨b, hb, rfl⟩ := List.mem_map.mp h2
      exact ⟨b, h1, hb⟩
    refine ⟨_, rfl, ?_⟩
    clear ra1 rb1 rc1 ra7 rb7 rc7 ra8 rb8 rc8 ra9 rb9 rc9 ra11 rb11 rc11 ra12 rb12 rc12 ra14 rb14 rc14 rb15 rb16 ra17 rb17 rc17 ra19 rb19 rc19 hc1 c10 c11 lowp hn0 n01 n02 hlk hn1 tm htop' t15 t12 t6 hb mb
    refine ⟨(m : Int), rfl, by omega, by omega, ?_⟩
    refine for_range (lo := 0) (n := m) (fun i σ H' => ∃ (b' num : Int) (fs : List Int) (v13 v14 : Option V), ExtD a H19 H' ∧ H' p20 = some (.lst (fs.map V.int)) ∧ OkB b' ms ∧ -1000000000000000 ≤ num ∧ num ≤ top + ms * (i : Int) ∧ fs.Pairwise (· ≤ ·) ∧ (∀ x ∈ fs, -1000000000000000 ≤ x ∧ x ≤ num) ∧ fs.length = i ∧ σ = [some (.ref a), some (.int (M : Int)), some (.int (m : Int)), some (.ref p6), some (.int b'), some (.bl mx), some (.int ms), some (.int num), some (.int top), some (.int r15), some (.int (1 + r16)), some (.int lk), some (.ref p20), v13, v14])
      ⟨b, n1, [], none, none, .same s20, e20, okb, n11, by omega, List.Pairwise.nil, (fun _ z => nomatch z), rfl, rfl⟩ (fun i σ Hi hi w => ?_) (fun σ Hi w => ?_)
    · obtain ⟨b', num, fs, v13, v14, Xi, eF, okb', nl, nu, srt, bnd, lf, rfl⟩ := w
      have hi' : (i : Int) < (m : Int) := by omega
      have hi3 : (0 : Int) + (i : Int) ≤ 300 := by omega
      have kk0 : 0 ≤ ((0 : Int) + (i : Int)) * (0 + (i : Int)) := Int.mul_nonneg (by omega) (by omega)
      have kk1 : ((0 : Int) + (i : Int)) * (0 + (i : Int)) ≤ 300 * 300 := Int.mul_le_mul hi3 hi3 (by omega) (by decide)
      repeat walk_at "s"
      -- base
      refine ⟨fun σ' H' => ∃ (b2 t : Int), H' = Hi ∧ OkB b2 ms ∧ 0 ≤ t ∧ t < 9973 ∧ σ' = [some (.ref a), some (.int (M : Int)), some (.int (m : Int)), some (.ref p6), some (.int b2), some (.bl mx), some (.int ms), some (.int num), some (.int top), some (.int r15), some (.int (1 + r16)), some (.int lk), some (.ref p20), some (.int (0 + (i : Int))), some (.int t)], ?_, ?_⟩
      · have tm0 := fun (u : Int) => Int.emod_nonneg u (show (9973 : Int) ≠ 0 by decide)
        have tm1 := fun (u : Int) => Int.emod_lt_of_pos u (show (0 : Int) < 9973 by decide)
        repeat walk_at "s"
        cases mx with
        | true =>
          refine iteT ?_
          repeat walk_at "s"
          obtain ⟨b2, hb2, mb2⟩ := at7 _ (Int.emod_nonneg _ (by decide)) (Int.emod_lt_of_pos _ (by decide))
          refine ⟨_, _, _, _, rfl, rfl, SqL.new (Xi.keep _ _ e6b n6), hb2, ?_⟩
          exact ⟨b2, _, rfl, by rw [hms rfl]; exact okB_big mb2, tm0 _, tm1 _, rfl⟩
        | false =>
          refine iteF ?_
          exact ⟨b', _, rfl, okb', tm0 _, tm1 _, rfl⟩
      rintro σ' Hj ⟨b2, t, hHj, okb2, t0, t1, rfl⟩
      have hHj := hHj.symm
      subst hHj
      have hand := Xi.hand h19
      -- turn
      refine ⟨fun σ' H' => ∃ (t : Int), ExtD a Hi H' ∧ 0 ≤ t ∧ t < 9973 ∧ σ' = [some (.ref a), some (.int (M : Int)), some (.int (m : Int)), some (.ref p6), some (.int b2), some (.bl mx), some (.int ms), some (.int num), some (.int top), some (.int r15), some (.int (1 + r16)), some (.int lk), some (.ref p20), some (.int (0 + (i : Int))), some (.int t)], ?_, ?_⟩
      · repeat walk_at "s"
        refine ite2 (fun z => ?_) (fun z => ?_)
        · repeat walk_at "s"
          refine ⟨a, _, rfl, (by walk_at "hand"), (by walk_at "pos"), ?_⟩
          intro r21 H21 x21 ra21 rb21 rc21
          exact ⟨r21, x21, ra21, by omega, rfl⟩
        · exact ⟨t, .refl, t0, t1, rfl⟩
      rintro σ' Hk ⟨u, xk, u0, u1, rfl⟩
      have handk := xk.hand hand
      have eFk := xk.keep _ _ eF n20
      obtain ⟨st, hst, st0, st1⟩ := okB_step okb2 u0 u1
      have b2pos : 0 < b2 := by rcases okb2 with ⟨k, _⟩ | ⟨k, _⟩ <;> omega
      have b2top : b2 ≤ 3322259136212 := by rcases okb2 with ⟨_, k, _⟩ | ⟨_, k⟩ <;> omega
      -- number
      refine ⟨fun σ' H' => ∃ (n2 : Int), ExtD a Hi H' ∧ num ≤ n2 ∧ n2 ≤ num + ms ∧ σ' = [some (.ref a), some (.int (M : Int)), some (.int (m : Int)), some (.ref p6), some (.int b2), some (.bl mx), some (.int ms), some (.int n2), some (.int top), some (.int r15), some (.int (1 + r16)), some (.int lk), some (.ref p20), some (.int (0 + (i : Int))), some (.int u)], ?_, ?_⟩
      · repeat walk_at "s"
        refine ite2 (fun z => ?_) (fun z => ?_)
        · refine iteT ?_
          repeat walk_at "s"
          intro p22 np22
          generalize hg22 : upd Hk p22 _ = H22
          have s22 : Same Hk H22 := hg22 ▸ same_new np22
          have e22 := (congrFun hg22 p22).symm.trans upd_same
          clear hg22
          have n22 : p22 ≠ a := DrawAt.ne (by walk_at "hand") np22
          repeat walk_at "s"
          refine .inr ⟨_, rfl, ?_⟩
          refine ⟨_, _, _, _, rfl, rfl, SqL.new e22, hst, ?_⟩
          refine ⟨_, _, rfl, rfl, ?_⟩
          exact ⟨num + st, xk.trans (.same s22), by omega, by omega, rfl⟩
        · repeat walk_at "s"
          refine ⟨rfl, _, rfl, ?_⟩
          refine ite2 (fun z => ?_) (fun z => ?_)
          · repeat walk_at "s"
            intro p22 np22
            generalize hg22 : upd Hk p22 _ = H22
            have s22 : Same Hk H22 := hg22 ▸ same_new np22
            have e22 := (congrFun hg22 p22).symm.trans upd_same
            clear hg22
            have n22 : p22 ≠ a := DrawAt.ne (by walk_at "hand") np22
            repeat walk_at "s"
            refine .inr ⟨_, rfl, ?_⟩
            refine ⟨_, _, _, _, rfl, rfl, SqL.new e22, hst, ?_⟩
            refine ⟨_, _, rfl, rfl, ?_⟩
            exact ⟨num + st, xk.trans (.same s22), by omega, by omega, rfl⟩
          · exact ⟨num, xk, by omega, by omega, rfl⟩
      rintro σ' Hl ⟨n2, xl, nn1, nn2, rfl⟩
      have eFl := xl.keep _ _ eF n20
      have Xl := Xi.trans xl
      have ms_i : ms * ((i : Int) + 1) = ms * (i : Int) + ms := by rw [Int.mul_add, Int.mul_one]
      repeat walk_at "s"
      refine ⟨.inl ⟨rfl, _, SqL.new eFl⟩, ?_⟩
      repeat walk_at "s"
      refine ⟨p20, _, _, rfl, rfl, eFl, smallLt (by rw [List.length_map]; omega), ?_⟩
      refine ⟨b2, n2, fs ++ [n2], _, _, ext_appD np20 n20 Xl, by rw [upd_same, List.map_append]; rfl, okb2, by omega, by rw [Int.natCast_add]; show n2 ≤ top + ms * ((i : Int) + 1); omega, ?_, fun x hx => ?_, by rw [List.length_append, lf]; rfl, rfl⟩
      · refine List.pairwise_append.mpr ⟨srt, List.pairwise_singleton _ _, fun x hx y hy => ?_⟩
        rw [List.mem_singleton.mp hy]
        have := (bnd x hx).2
        omega
      · rcases List.mem_append.mp hx with hx | hx
        · have := bnd x hx
          omega
        · rw [List.mem_singleton.mp hx]
          omega
    · obtain ⟨b', num, fs, v13, v14, Xi, eF, okb', nl, nu, srt, bnd, lf, rfl⟩ := w
      repeat walk_at "s"
      refine q p20 fs Hi (X19.trans Xi) (X19.free n20 np20) eF (by omega) ⟨srt, fun x hx => ?_⟩
      have := bnd x hx
      omega

end
theorem all_mk {l : PySem.W.OpenLaw} {w : World} {K : PySem.W.Frag} {h : Heap} {mg : Str → Option Value} {fa f0 f1 f2 f3 f4 f5 f6 f7 f8 f9 f10 f11 f12 f13 f14 : Addr} (X : K.In h) (G : h.Ns mainGlobals mg) (hfa : mg "law" = some (.ref fa))
    {od0 an0 od1 an1 od2 an2 od3 an3 od4 an4 od5 an5 od6 an6 od7 an7 od8 an8 od9 an9 od10 an10 od11 an11 od12 an12 od13 an13 od14 an14 : Option Addr} {sl0 sl1 sl2 sl3 sl4 sl5 sl6 sl7 sl8 sl9 sl10 sl11 sl12 sl13 sl14 : Array (Option Value)} {oc0 kV0 dc0 pm0 ct0 cd0 oc1 kV1 dc1 pm1 ct1 cd1 oc2 kV2 dc2 pm2 ct2 cd2 oc3 kV3 dc3 pm3 ct3 cd3 oc4 kV4 dc4 pm4 ct4 cd4 oc5 kV5 dc5 pm5 ct5 cd5 oc6 kV6 dc6 pm6 ct6 cd6 oc7 kV7 dc7 pm7 ct7 cd7 oc8 kV8 dc8 pm8 ct8 cd8 oc9 kV9 dc9 pm9 ct9 cd9 oc10 kV10 dc10 pm10 ct10 cd10 oc11 kV11 dc11 pm11 ct11 cd11 oc12 kV12 dc12 pm12 ct12 cd12 oc13 kV13 dc13 pm13 ct13 cd13 oc14 kV14 dc14 pm14 ct14 cd14 : Value}
    (a0 : PySem.W.nsIn K mainGlobals "_law_draws" = some (some (.ref f0))) (l0 : K.lookup f0 = some ⟨oc0, od0, .func (PySem.W.fnOf "_law_draws" "_law_draws" (defArgs slaw_draws) (defBody slaw_draws) (defScope slaw_draws) .none kV0 dc0 pm0 an0 cd0 ct0), sl0⟩) (c0 : PySem.W.codeIn K cd0 "_law_draws" = true) (k0 : PySem.W.keepIn K (.ref f0) = true)
    (a1 : PySem.W.nsIn K mainGlobals "_law_take" = some (some (.ref f1))) (l1 : K.lookup f1 = some ⟨oc1, od1, .func (PySem.W.fnOf "_law_take" "_law_take" (defArgs slaw_take) (defBody slaw_take) (defScope slaw_take) .none kV1 dc1 pm1 an1 cd1 ct1), sl1⟩) (c1 : PySem.W.codeIn K cd1 "_law_take" = true) (k1 : PySem.W.keepIn K (.ref f1) = true)
    (a2 : PySem.W.nsIn K mainGlobals "_law_row" = some (some (.ref f2))) (l2 : K.lookup f2 = some ⟨oc2, od2, .func (PySem.W.fnOf "_law_row" "_law_row" (defArgs slaw_row) (defBody slaw_row) (defScope slaw_row) .none kV2 dc2 pm2 an2 cd2 ct2), sl2⟩) (c2 : PySem.W.codeIn K cd2 "_law_row" = true) (k2 : PySem.W.keepIn K (.ref f2) = true)
    (a3 : PySem.W.nsIn K mainGlobals "_law_asked" = some (some (.ref f3))) (l3 : K.lookup f3 = some ⟨oc3, od3, .func (PySem.W.fnOf "_law_asked" "_law_asked" (defArgs slaw_asked) (defBody slaw_asked) (defScope slaw_asked) .none kV3 dc3 pm3 an3 cd3 ct3), sl3⟩) (c3 : PySem.W.codeIn K cd3 "_law_asked" = true) (k3 : PySem.W.keepIn K (.ref f3) = true)
    (a4 : PySem.W.nsIn K mainGlobals "_law_below" = some (some (.ref f4))) (l4 : K.lookup f4 = some ⟨oc4, od4, .func (PySem.W.fnOf "_law_below" "_law_below" (defArgs slaw_below) (defBody slaw_below) (defScope slaw_below) .none kV4 dc4 pm4 an4 cd4 ct4), sl4⟩) (c4 : PySem.W.codeIn K cd4 "_law_below" = true) (k4 : PySem.W.keepIn K (.ref f4) = true)
    (a5 : PySem.W.nsIn K mainGlobals "is_whole" = some (some (.ref f5))) (l5 : K.lookup f5 = some ⟨oc5, od5, .func (PySem.W.fnOf "is_whole" "is_whole" (defArgs sis_whole) (defBody sis_whole) (defScope sis_whole) .none kV5 dc5 pm5 an5 cd5 ct5), sl5⟩) (c5 : PySem.W.codeIn K cd5 "is_whole" = true) (k5 : PySem.W.keepIn K (.ref f5) = true)
    (a6 : PySem.W.nsIn K mainGlobals "shows" = some (some (.ref f6))) (l6 : K.lookup f6 = some ⟨oc6, od6, .func (PySem.W.fnOf "shows" "shows" (defArgs sshows) (defBody sshows) (defScope sshows) .none kV6 dc6 pm6 an6 cd6 ct6), sl6⟩) (c6 : PySem.W.codeIn K cd6 "shows" = true) (k6 : PySem.W.keepIn K (.ref f6) = true)
    (a7 : PySem.W.nsIn K mainGlobals "by_paper" = some (some (.ref f7))) (l7 : K.lookup f7 = some ⟨oc7, od7, .func (PySem.W.fnOf "by_paper" "by_paper" (defArgs sby_paper) (defBody sby_paper) (defScope sby_paper) .none kV7 dc7 pm7 an7 cd7 ct7), sl7⟩) (c7 : PySem.W.codeIn K cd7 "by_paper" = true) (k7 : PySem.W.keepIn K (.ref f7) = true)
    (a8 : PySem.W.nsIn K mainGlobals "_law_whole" = some (some (.ref f8))) (l8 : K.lookup f8 = some ⟨oc8, od8, .func (PySem.W.fnOf "_law_whole" "_law_whole" (defArgs slaw_whole) (defBody slaw_whole) (defScope slaw_whole) .none kV8 dc8 pm8 an8 cd8 ct8), sl8⟩) (c8 : PySem.W.codeIn K cd8 "_law_whole" = true) (k8 : PySem.W.keepIn K (.ref f8) = true)
    (a9 : PySem.W.nsIn K mainGlobals "_law_deep" = some (some (.ref f9))) (l9 : K.lookup f9 = some ⟨oc9, od9, .func (PySem.W.fnOf "_law_deep" "_law_deep" (defArgs slaw_deep) (defBody slaw_deep) (defScope slaw_deep) .none kV9 dc9 pm9 an9 cd9 ct9), sl9⟩) (c9 : PySem.W.codeIn K cd9 "_law_deep" = true) (k9 : PySem.W.keepIn K (.ref f9) = true)
    (a10 : PySem.W.nsIn K mainGlobals "_law_right" = some (some (.ref f10))) (l10 : K.lookup f10 = some ⟨oc10, od10, .func (PySem.W.fnOf "_law_right" "_law_right" (defArgs slaw_right) (defBody slaw_right) (defScope slaw_right) .none kV10 dc10 pm10 an10 cd10 ct10), sl10⟩) (c10 : PySem.W.codeIn K cd10 "_law_right" = true) (k10 : PySem.W.keepIn K (.ref f10) = true)
    (a11 : PySem.W.nsIn K mainGlobals "_law_spoilt" = some (some (.ref f11))) (l11 : K.lookup f11 = some ⟨oc11, od11, .func (PySem.W.fnOf "_law_spoilt" "_law_spoilt" (defArgs slaw_spoilt) (defBody slaw_spoilt) (defScope slaw_spoilt) .none kV11 dc11 pm11 an11 cd11 ct11), sl11⟩) (c11 : PySem.W.codeIn K cd11 "_law_spoilt" = true) (k11 : PySem.W.keepIn K (.ref f11) = true)
    (a12 : PySem.W.nsIn K mainGlobals "_law_beside_right" = some (some (.ref f12))) (l12 : K.lookup f12 = some ⟨oc12, od12, .func (PySem.W.fnOf "_law_beside_right" "_law_beside_right" (defArgs slaw_beside_right) (defBody slaw_beside_right) (defScope slaw_beside_right) .none kV12 dc12 pm12 an12 cd12 ct12), sl12⟩) (c12 : PySem.W.codeIn K cd12 "_law_beside_right" = true) (k12 : PySem.W.keepIn K (.ref f12) = true)
    (a13 : PySem.W.nsIn K mainGlobals "_law_more_right" = some (some (.ref f13))) (l13 : K.lookup f13 = some ⟨oc13, od13, .func (PySem.W.fnOf "_law_more_right" "_law_more_right" (defArgs slaw_more_right) (defBody slaw_more_right) (defScope slaw_more_right) .none kV13 dc13 pm13 an13 cd13 ct13), sl13⟩) (c13 : PySem.W.codeIn K cd13 "_law_more_right" = true) (k13 : PySem.W.keepIn K (.ref f13) = true)
    (a14 : PySem.W.nsIn K mainGlobals "law" = some (some (.ref f14))) (l14 : K.lookup f14 = some ⟨oc14, od14, .func (PySem.W.fnOf "law" "law" (defArgs slaw) (defBody slaw) (defScope slaw) .none kV14 dc14 pm14 an14 cd14 ct14), sl14⟩) (c14 : PySem.W.codeIn K cd14 "law" = true) (k14 : PySem.W.keepIn K (.ref f14) = true)
    (zzip : PySem.W.nsIn K mainGlobals "zip" = some none)
    (zlen : PySem.W.nsIn K mainGlobals "len" = some none)
    (zlist : PySem.W.nsIn K mainGlobals "list" = some none)
    (zenumerate : PySem.W.nsIn K mainGlobals "enumerate" = some none)
    (zint : PySem.W.nsIn K mainGlobals "int" = some none)
    (zbool : PySem.W.nsIn K mainGlobals "bool" = some none)
    (zsum : PySem.W.nsIn K mainGlobals "sum" = some none)
    (zsorted : PySem.W.nsIn K mainGlobals "sorted" = some none)
    (zmin : PySem.W.nsIn K mainGlobals "min" = some none)
    (zmax : PySem.W.nsIn K mainGlobals "max" = some none)
    (zrange : PySem.W.nsIn K mainGlobals "range" = some none)
    (zisinstance : PySem.W.nsIn K mainGlobals "isinstance" = some none)
    (zrepr : PySem.W.nsIn K mainGlobals "repr" = some none)
    (ztuple : PySem.W.nsIn K mainGlobals "tuple" = some none)
    (zdict : PySem.W.nsIn K mainGlobals "dict" = some none)
    (zabs : PySem.W.nsIn K mainGlobals "abs" = some none)
    (zstr : PySem.W.nsIn K mainGlobals "str" = some none)
    : ∃ fd : FuncData, (∀ (s : Shared) (v : Value), BindsTo s fd ⟨[v], []⟩ [("script", v)]) ∧ ∀ base : Heap, K.In base → base.Ns mainGlobals mg → Gd.FnG l.prog w K mg base 6 fa fd ["script"] (spLaw K) := by
  have e := hfa.symm.trans (PySem.W.mg_of X G a14)
  cases e
  have B : Bt mg := ⟨PySem.W.mg_none_of X G zlen, PySem.W.mg_none_of X G zlist, PySem.W.mg_none_of X G zenumerate, PySem.W.mg_none_of X G zint, PySem.W.mg_none_of X G zbool, PySem.W.mg_none_of X G zsum, PySem.W.mg_none_of X G zsorted, PySem.W.mg_none_of X G zmin, PySem.W.mg_none_of X G zmax, PySem.W.mg_none_of X G zrange, PySem.W.mg_none_of X G zisinstance, PySem.W.mg_none_of X G zrepr, PySem.W.mg_none_of X G ztuple, PySem.W.mg_none_of X G zdict, PySem.W.mg_none_of X G zabs, PySem.W.mg_none_of X G zstr⟩
  have zZ := PySem.W.mg_none_of X G zzip
  have F0 := fun_mk (st := slaw_draws) l0 c0 k0
  have b0 := F0.binds (ps := ["script"]) fun _ _ _ _ _ _ us hl => match us, hl with | [_], _ => rfl
  have F1 := fun_mk (st := slaw_take) l1 c1 k1
  have b1 := F1.binds (ps := ["draws", "many"]) fun _ _ _ _ _ _ us hl => match us, hl with | [_, _], _ => rfl
  have F2 := fun_mk (st := slaw_row) l2 c2 k2
  have b2 := F2.binds (ps := ["draws", "most"]) fun _ _ _ _ _ _ us hl => match us, hl with | [_, _], _ => rfl
  have F3 := fun_mk (st := slaw_asked) l3 c3 k3
  have b3 := F3.binds (ps := ["draws", "one", "other"]) fun _ _ _ _ _ _ us hl => match us, hl with | [_, _, _], _ => rfl
  have F4 := fun_mk (st := slaw_below) l4 c4 k4
  have b4 := F4.binds (ps := ["one", "other", "number"]) fun _ _ _ _ _ _ us hl => match us, hl with | [_, _, _], _ => rfl
  have F5 := fun_mk (st := sis_whole) l5 c5 k5
  have b5 := F5.binds (ps := ["thing"]) fun _ _ _ _ _ _ us hl => match us, hl with | [_], _ => rfl
  have F6 := fun_mk (st := sshows) l6 c6 k6
  have b6 := F6.binds (ps := ["thing", "row", "number"]) fun _ _ _ _ _ _ us hl => match us, hl with | [_, _, _], _ => rfl
  have F7 := fun_mk (st := sby_paper) l7 c7 k7
  have b7 := F7.binds (ps := ["one", "other", "number", "thing"]) fun _ _ _ _ _ _ us hl => match us, hl with | [_, _, _, _], _ => rfl
  have F8 := fun_mk (st := slaw_whole) l8 c8 k8
  have b8 := F8.binds (ps := ["thing"]) fun _ _ _ _ _ _ us hl => match us, hl with | [_], _ => rfl
  have F9 := fun_mk (st := slaw_deep) l9 c9 k9
  have b9 := F9.binds (ps := ["many"]) fun _ _ _ _ _ _ us hl => match us, hl with | [_], _ => rfl
  have F10 := fun_mk (st := slaw_right) l10 c10 k10
  have b10 := F10.binds (ps := ["one", "other", "number", "due", "thing"]) fun _ _ _ _ _ _ us hl => match us, hl with | [_, _, _, _, _], _ => rfl
  have F11 := fun_mk (st := slaw_spoilt) l11 c11 k11
  have b11 := F11.binds (ps := ["draws", "paper", "size"]) fun _ _ _ _ _ _ us hl => match us, hl with | [_, _, _], _ => rfl
  have F12 := fun_mk (st := slaw_beside_right) l12 c12 k12
  have b12 := F12.binds (ps := ["draws", "one", "other", "number", "due"]) fun _ _ _ _ _ _ us hl => match us, hl with | [_, _, _, _, _], _ => rfl
  have F13 := fun_mk (st := slaw_more_right) l13 c13 k13
  have b13 := F13.binds (ps := ["draws"]) fun _ _ _ _ _ _ us hl => match us, hl with | [_], _ => rfl
  have F14 := fun_mk (st := slaw) l14 c14 k14
  have b14 := F14.binds (ps := ["script"]) fun _ _ _ _ _ _ us hl => match us, hl with | [_], _ => rfl
  refine ⟨PySem.W.fnOf "law" "law" (defArgs slaw) (defBody slaw) (defScope slaw) .none kV14 dc14 pm14 an14 cd14 ct14, fun s v => .of_eq rfl, fun base _ _ => ?_⟩
  have g0 : Cal l.prog w K mg base 1 "_law_draws" ["script"] (spDraws K) := ⟨_, _, ok_draws B F0, PySem.W.mg_of X G a0, k0, b0⟩
  have g1 : Cal l.prog w K mg base 1 "_law_take" ["draws", "many"] spTake := ⟨_, _, ok_take F1, PySem.W.mg_of X G a1, k1, b1⟩
  have g2 : Cal l.prog w K mg base 2 "_law_row" ["draws", "most"] spRowD := ⟨_, _, ok_rowd B F2 g1, PySem.W.mg_of X G a2, k2, b2⟩
  have g3 : Cal l.prog w K mg base 2 "_law_asked" ["draws", "one", "other"] spAskedD := ⟨_, _, ok_askedd B F3 g1, PySem.W.mg_of X G a3, k3, b3⟩
  have g4 : Cal l.prog w K mg base 1 "_law_below" ["one", "other", "number"] (spBelowL K) := ⟨_, _, ok_belowl B F4, PySem.W.mg_of X G a4, k4, b4⟩
  have g5 : Cal l.prog w K mg base 1 "is_whole" ["thing"] (spIsWhole K) := ⟨_, _, ok_is_whole B F5, PySem.W.mg_of X G a5, k5, b5⟩
  have g6 : Cal l.prog w K mg base 2 "shows" ["thing", "row", "number"] (spShows K) := ⟨_, _, ok_shows B F6 g5, PySem.W.mg_of X G a6, k6, b6⟩
  have g7 : Cal l.prog w K mg base 3 "by_paper" ["one", "other", "number", "thing"] (spByPaper K) := ⟨_, _, ok_by_paper B F7 zZ g6, PySem.W.mg_of X G a7, k7, b7⟩
  have g8 : Cal l.prog w K mg base 1 "_law_whole" ["thing"] (spIsWhole K) := ⟨_, _, ok_whole46 B F8, PySem.W.mg_of X G a8, k8, b8⟩
  have g9 : Cal l.prog w K mg base 1 "_law_deep" ["many"] Rq.spDeep46 := ⟨_, _, ok_deep46 B F9, PySem.W.mg_of X G a9, k9, b9⟩
  have g10 : Gd.CalG l.prog w K mg base 4 "_law_right" ["one", "other", "number", "due", "thing"] (Rq.spRight46 K) := ⟨_, _, ok_right46 B F10 g8 g7, PySem.W.mg_of X G a10, k10, b10⟩
  have g11 : Cal l.prog w K mg base 2 "_law_spoilt" ["draws", "paper", "size"] (Rq.spSpoilt46 K) := ⟨_, _, ok_spoilt46 B F11 g1, PySem.W.mg_of X G a11, k11, b11⟩
  have g12 : Gd.CalG l.prog w K mg base 5 "_law_beside_right" ["draws", "one", "other", "number", "due"] (Rq.spBeside46 K) := ⟨_, _, ok_beside46 B F12 g1 g10, PySem.W.mg_of X G a12, k12, b12⟩
  have g13 : Gd.CalG l.prog w K mg base 5 "_law_more_right" ["draws"] Rq.spMore46 := ⟨_, _, ok_more46 B F13 g1 g2 g3 g4 g11 g8 g7 g10 g9, PySem.W.mg_of X G a13, k13, b13⟩
  exact ok_law46 B F14 g0 g1 g2 g3 g4 g11 g10 g12 g13 g7 g9
end Sp
open PySem PySem.W PyProof.Rows
set_option maxRecDepth 100000 in
set_option maxHeartbeats 0 in
theorem PySem.Challenge.cw_sumplace_k46_papers_looked_at_holds : PySem.Challenge.rw_sumplace_k46_papers_looked_at.Holds := by
  w_on; o_law; k_head; (case hw => w_witness2)
  k_fill
  refine Gd.walkG (l := PySem.Challenge.rw_sumplace_k46_papers_looked_at) (n := 63) (k := 6) (x := "script") (sp := Sp.spLaw) rfl (by decide) rfl ⟨rfl, by decide, by decide⟩ (fun w h Y => PySem.W.kIn_of Y) ?F (fun _ _ a ns hl hS => ⟨a, ns, rfl, hS, hl, fun _ => rfl⟩)
  case F =>
    intro w mg fa h KX G hmg
    refine' Sp.all_mk KX G hmg ?a0 ?l0 ?c0 ?k0 ?a1 ?l1 ?c1 ?k1 ?a2 ?l2 ?c2 ?k2 ?a3 ?l3 ?c3 ?k3 ?a4 ?l4 ?c4 ?k4 ?a5 ?l5 ?c5 ?k5 ?a6 ?l6 ?c6 ?k6 ?a7 ?l7 ?c7 ?k7 ?a8 ?l8 ?c8 ?k8 ?a9 ?l9 ?c9 ?k9 ?a10 ?l10 ?c10 ?k10 ?a11 ?l11 ?c11 ?k11 ?a12 ?l12 ?c12 ?k12 ?a13 ?l13 ?c13 ?k13 ?a14 ?l14 ?c14 ?k14 ?zzip ?zlen ?zlist ?zenumerate ?zint ?zbool ?zsum ?zsorted ?zmin ?zmax ?zrange ?zisinstance ?zrepr ?ztuple ?zdict ?zabs ?zstr
    (case a0 => k_is)
    (case l0 => k_is)
    (case c0 => k_is)
    (case k0 => k_is)
    (case a1 => k_is)
    (case l1 => k_is)
    (case c1 => k_is)
    (case k1 => k_is)
    (case a2 => k_is)
    (case l2 => k_is)
    (case c2 => k_is)
    (case k2 => k_is)
    (case a3 => k_is)
    (case l3 => k_is)
    (case c3 => k_is)
    (case k3 => k_is)
    (case a4 => k_is)
    (case l4 => k_is)
    (case c4 => k_is)
    (case k4 => k_is)
    (case a5 => k_is)
    (case l5 => k_is)
    (case c5 => k_is)
    (case k5 => k_is)
    (case a6 => k_is)
    (case l6 => k_is)
    (case c6 => k_is)
    (case k6 => k_is)
    (case a7 => k_is)
    (case l7 => k_is)
    (case c7 => k_is)
    (case k7 => k_is)
    (case a8 => k_is)
    (case l8 => k_is)
    (case c8 => k_is)
    (case k8 => k_is)
    (case a9 => k_is)
    (case l9 => k_is)
    (case c9 => k_is)
    (case k9 => k_is)
    (case a10 => k_is)
    (case l10 => k_is)
    (case c10 => k_is)
    (case k10 => k_is)
    (case a11 => k_is)
    (case l11 => k_is)
    (case c11 => k_is)
    (case k11 => k_is)
    (case a12 => k_is)
    (case l12 => k_is)
    (case c12 => k_is)
    (case k12 => k_is)
    (case a13 => k_is)
    (case l13 => k_is)
    (case c13 => k_is)
    (case k13 => k_is)
    (case a14 => k_is)
    (case l14 => k_is)
    (case c14 => k_is)
    (case k14 => k_is)
    (case zzip => k_is)
    (case zlen => k_is)
    (case zlist => k_is)
    (case zenumerate => k_is)
    (case zint => k_is)
    (case zbool => k_is)
    (case zsum => k_is)
    (case zsorted => k_is)
    (case zmin => k_is)
    (case zmax => k_is)
    (case zrange => k_is)
    (case zisinstance => k_is)
    (case zrepr => k_is)
    (case ztuple => k_is)
    (case zdict => k_is)
    (case zabs => k_is)
    (case zstr => k_is)
