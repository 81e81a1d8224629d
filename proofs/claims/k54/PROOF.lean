import PyProof.Rows.All
import Wide.All
import OpenK.AllK
import Wide.FinOn
import KE.KDictZip
import KE.KDictItemsList
import HandS.Base
import HandS.Call
import HandS.List
import HandS.Comp
import HandS.Ends
import HandS.Iter
import HandS.Words
import HandS.WordsList
import HandS.SortInts
import HandS.IsInst
import HandS.Wide
import HandS.Style
import HandS.SetFor
import HandS.Dict
import HandS.Evl
import HandS.WordsDict
import HandS.Nested
import HandS.EndTab
import HandS.Sort
import HandS.SortOrd
import HandS.SortRule
import HandS.Conv
import HandS.Walk
import HandS.Steps
import HandS.TryOnly
import HandS.ForExc
import HandS.ExcIs
import KE.KIntText
import KE.IntTextText
import PyProof.StrLawsTight
import PyProof.Rows.ReprOcc
import HandS.StrMore
import HandS.Text
import HandS.Codes
import PySem.Challenge.RW_sumplace_k54_texts_of_no_row
set_option Elab.async false
set_option linter.all false
set_option maxRecDepth 100000
set_option maxHeartbeats 4000000
/-! list(enumerate(xs)): the tuples stay held, each a new object. -/
namespace Enl
open PySem PySem.W PySem.Calls PyProof.Rows PyProof.V PySem.Spec

theorem no_len : typeLookup (.type "enumerate") "__len__" = pure none := am_miss_of_fast (by decide +kernel)
theorem no_hint : typeLookup (.type "enumerate") "__length_hint__" = pure none := am_miss_of_fast (by decide +kernel)

structure Got (its : Array Value) (lo : Addr) (h : Heap) (as : List Addr) : Prop where
  up : as.Pairwise (· < ·)
  ab : ∀ a ∈ as, lo < a
  prs : ∀ (j : Nat) (a : Addr), as[j]? = some a → ∃ (v : Value) (t : Tok), its[j]? = some v ∧ h.get? a = some { cls := .type "tuple", data := .seq #[.int j t, v] }

/-- where the enumerate stands ahead of turn i -/
def At (h : Heap) (e it l S : Addr) (i : Nat) (its : Array Value) : Prop :=
  h.IsListIter it l i ∧ h.IsList l its ∧ ((∃ old, IsEnum h e it i old) ∨ ∃ old T f oT, IsEnumHeld h e it i old T f ∧ h.get? T = some oT ∧ T ≠ e ∧ T ≠ it ∧ T ≠ S)
theorem At.up {h h' : Heap} {e it l S : Addr} {i : Nat} {its : Array Value} (a : At h e it l S i its) (n1 : e ≠ S) (n2 : it ≠ S) (n3 : l ≠ S) (k : ∀ b o, b ≠ S → h.get? b = some o → h'.get? b = some o) : At h' e it l S i its := by
  obtain ⟨a1, a2, a3⟩ := a
  refine ⟨a1.at fun o x => k _ o n2 x, a2.at fun o x => k _ o n3 x, ?_⟩
  rcases a3 with ⟨old, a3⟩ | ⟨old, T, f, oT, a3, a4, r1, r2, r3⟩
  · exact .inl ⟨old, k _ _ n1 a3⟩
  · exact .inr ⟨old, T, f, oT, k _ _ n1 a3, k _ _ r3 a4, r1, r2, r3⟩

section
variable {prog : Program} {w : World} {A : Around} {E : Value → Shared → Prop} {s : Shared}
theorem next_item {e it l S : Addr} {i : Nat} {its : Array Value} {x : Value} {Q : Option Value → Shared → Prop} (st : At s.heap e it l S i its) (hx : its[i]? = some x) (hei : e ≠ it) (hle : l ≠ e) (hli : l ≠ it) (hS : S < s.heap.objs.size)
    (hQ : ∀ h', At h' e it l S (i + 1) its → h'.get? s.heap.objs.size = some { cls := .type "tuple", data := .seq #[.int i s.toks, x] } → h'.objs.size = s.heap.objs.size + 1 →
      (∀ b o, b ≠ e → b ≠ it → s.heap.get? b = some o → h'.get? b = some o) → Q (some (.ref s.heap.objs.size)) { s with heap := h', toks := s.toks + 1 }) : wpAny (model prog w) A (pyNext (.ref e)) Q E s := by
  obtain ⟨hit, hl, he⟩ := st
  have ec : ((i + 1 : Nat) : Int) = (i : Int) + 1 := by omega
  have nit : s.heap.objs.size ≠ it := let ⟨_, x, _⟩ := hit; Nat.ne_of_gt (Heap.lt_size x)
  rcases he with ⟨old, he⟩ | ⟨old, T, f, oT, he, hT, r1, r2, r3⟩
  · refine wpAny_pyNext_enum_item he hit hl hx hei fun h' ho hit' hT hz hk => ?_
    refine hQ h' ⟨hit', hl.at fun o y => hk l o hle hli y, .inr ⟨_, s.heap.objs.size, false, _, (by rw [ec]; exact ho), hT, Nat.ne_of_gt (Heap.lt_size he), nit, Nat.ne_of_gt hS⟩⟩ hT hz hk
  · refine wpAny_pyNext_enum_item_held he hT r1 r2 hit hl hx hei fun h' ho hit' hT' hz hk => ?_
    refine hQ h' ⟨hit', hl.at fun o y => hk l o hle hli y, .inr ⟨old, T, true, oT, (by rw [ec]; exact ho), hk _ _ r1 r2 hT, r1, r2, r3⟩⟩ hT' hz hk
theorem next_end {e it l S : Addr} {its : Array Value} {Q : Option Value → Shared → Prop} (hh : A.handled = none) (st : At s.heap e it l S its.size its)
    (hQ : ∀ h', Heap.ExtBut it s.heap h' → Q none { s with heap := h' }) : wpAny (model prog w) A (pyNext (.ref e)) Q E s := by
  obtain ⟨hit, hl, he⟩ := st
  have hx : its[its.size]? = none := Array.getElem?_eq_none (Nat.le_refl _)
  rcases he with ⟨old, he⟩ | ⟨old, T, f, oT, he, hT, r1, r2, r3⟩
  · exact wpAny_pyNext_enum_end hh he hit hl hx fun h' hk => hQ h' hk
  · exact wpAny_pyNext_enum_end_held hh he hit hl hx fun h' hk => hQ h' hk
end

section
variable {prog : Program} {w : World} {A : Around} {s : Shared} {R : Result → Shared → Prop} {its : Array Value}
theorem turns {S e it l : Addr} (hh : A.handled = none) (hSe : S ≠ e) (hSi : S ≠ it) (hSl : S ≠ l) (hei : e ≠ it) (hle : l ≠ e) (hli : l ≠ it) (hn : its.size ≤ sizeLine) (res : Value) {h₁ : Heap} {lo : Addr} (hlS : S ≤ lo) (hle' : e ≤ lo) (hli' : it ≤ lo)
    (hR : ∀ h' tk acc c as, (∀ b o, b ≠ S → b ≠ e → b ≠ it → h₁.get? b = some o → h'.get? b = some o) → h'.get? S = some { cls := .type "list", dict := none, data := .seq acc c, slots := #[] } → as.length = its.size → Got its lo h' as →
      acc.toList = as.map Value.ref → R (.ok (.ret res)) { s with heap := h', toks := tk }) :
    ∀ (k i : Nat) (h : Heap) (tk c : Nat) (acc : Array Value) (as : List Addr), its.size - i = k → i ≤ its.size → At h e it l S i its → (∀ b o, b ≠ S → b ≠ e → b ≠ it → h₁.get? b = some o → h.get? b = some o) →
      h.get? S = some { cls := .type "list", dict := none, data := .seq acc c, slots := #[] } → acc.toList = as.map Value.ref → as.length = i → Got its lo h as → lo < h.objs.size → (∀ a ∈ as, a < h.objs.size) →
      codeAny (model prog w) A (.builtin "list.extend.loop" ⟨[.ref S, .ref e, res], []⟩) R { s with heap := h, toks := tk } := by
  intro k
  induction k with
  | zero =>
    intro i h tk c acc as hk hi hst hkeep hS hacc hal hG hlo hlt
    obtain rfl : i = its.size := by omega
    refine codeAny_builtin PySem.F.entry_extend_loop ?_; rw [Around.under_plainId PySem.F.plain_extend_loop _]
    show wpAny _ A.in1 (pyNext (.ref e) >>= _) _ _ _
    refine wpAny_bind (next_end (s := { s with heap := h, toks := tk }) (A := A.in1) hh hst fun h' he => ?_)
    refine wpAny_pure (hR h' tk acc c as (fun b o h1 h2 h3 y => he b o h3 (hkeep b o h1 h2 h3 y)) (he S _ hSi hS) hal ⟨hG.up, hG.ab, fun j a hj => ?_⟩ hacc)
    obtain ⟨v, t, e1, e2⟩ := hG.prs j a hj
    exact ⟨v, t, e1, he a _ (Nat.ne_of_gt (Nat.lt_of_le_of_lt hli' (hG.ab a (List.mem_of_getElem? hj)))) e2⟩
  | succ k ih =>
    intro i h tk c acc as hk hi hst hkeep hS hacc hal hG hlo hlt
    have hi' : i < its.size := by omega
    have hsz : acc.size = i := by rw [← Array.length_toList, hacc, List.length_map, hal]
    have hSz : S < h.objs.size := Heap.lt_size hS
    refine codeAny_builtin PySem.F.entry_extend_loop ?_; rw [Around.under_plainId PySem.F.plain_extend_loop _]
    show wpAny _ A.in1 (pyNext (.ref e) >>= _) _ _ _
    refine wpAny_bind (next_item (s := { s with heap := h, toks := tk }) hst (Array.getElem?_eq_getElem hi') hei hle hli hSz fun h' hst' ht hz hkp => ?_)
    dsimp only at ht hz hkp ⊢
    have hS' := hkp S _ hSe hSi hS
    have up : ∀ b o, b ≠ S → h'.get? b = some o → (h'.update S (Obj.mapSeq (·.push (Value.ref h.objs.size)))).get? b = some o := fun b o hb y => (Heap.get?_update_other _ _ (Ne.symm hb)).trans y
    show wpAny _ A.in1 (updateSeq S (·.push (Value.ref h.objs.size)) >>= _) _ _ _
    refine wpAny_bind ?_
    refine wpAny_updateSeq hS' rfl (wpAny_pure ⟨plainId_quiet PySem.F.plain_extend_loop _, ?_⟩) (by rw [hsz]; omega) (by show (acc.push (Value.ref h.objs.size)).size ≤ sizeLine + 1; rw [Array.size_push, hsz]; omega)
    have hT := up _ _ (Nat.ne_of_gt hSz) ht
    have hbig : h.objs.size < (h'.update S (Obj.mapSeq (·.push (Value.ref h.objs.size)))).objs.size := Heap.lt_size hT
    refine ih (i + 1) _ (tk + 1) _ (acc.push (Value.ref h.objs.size)) (as ++ [h.objs.size]) (by omega) hi' (hst'.up (Ne.symm hSe) (Ne.symm hSi) (Ne.symm hSl) up) (fun b o h1 h2 h3 y => up b o h1 (hkp b o h2 h3 (hkeep b o h1 h2 h3 y))) (Heap.get?_update_self _ hS' rfl)
      (by rw [Array.toList_push, hacc, List.map_append]; rfl) (by rw [List.length_append, hal]; rfl) ⟨?_, ?_, ?_⟩ (Nat.lt_trans hlo hbig) ?_
    · refine List.pairwise_append.mpr ⟨hG.up, List.pairwise_singleton _ _, fun a ha b hb => ?_⟩
      rw [List.mem_singleton.mp hb]
      exact hlt a ha
    · intro a ha
      rcases List.mem_append.mp ha with ha | ha
      · exact hG.ab a ha
      · rw [List.mem_singleton.mp ha]
        exact hlo
    · intro j a hj
      by_cases hjl : j < as.length
      · rw [List.getElem?_append_left hjl] at hj
        obtain ⟨v, t, e1, e2⟩ := hG.prs j a hj
        have ga := hG.ab a (List.mem_of_getElem? hj)
        exact ⟨v, t, e1, up a _ (Nat.ne_of_gt (Nat.lt_of_le_of_lt hlS ga)) (hkp a _ (Nat.ne_of_gt (Nat.lt_of_le_of_lt hle' ga)) (Nat.ne_of_gt (Nat.lt_of_le_of_lt hli' ga)) e2)⟩
      · have hjb : j < (as ++ [h.objs.size]).length := (List.getElem?_eq_some_iff.mp hj).1
        rw [List.length_append, List.length_singleton] at hjb
        obtain rfl : j = i := by omega
        rw [List.getElem?_append_right (by omega), show j - as.length = 0 from by omega] at hj
        obtain rfl : h.objs.size = a := Option.some.inj hj
        exact ⟨its[j], tk, Array.getElem?_eq_getElem hi', hT⟩
    · intro a ha
      rcases List.mem_append.mp ha with ha | ha
      · exact Nat.lt_trans (hlt a ha) hbig
      · rw [List.mem_singleton.mp ha]
        exact hbig
end
section
variable {prog : Program} {w : World} {A : Around} {E : Value → Shared → Prop} {s : Shared} {its : Array Value} {e it l : Addr}
theorem hint_none (he : s.TypeIs (.ref e) "enumerate") {Q : Bool → Shared → Prop} (h : Q true s) : wpAny (model prog w) A (Builtin.List.listLengthHint (.ref e)) Q E s := by
  unfold Builtin.List.listLengthHint
  refine wpAny_bind (wpAny_specialOf he no_len ?_)
  show wpAny _ A (specialOf (Value.ref e) (Str.ofString "__length_hint__") >>= _) _ _ _
  refine wpAny_bind (wpAny_specialOf he no_hint ?_)
  exact wpAny_pure h
/-- list(e), e an enumerate over a list that stands at its begin -/
theorem call_list {Q : Value → Shared → Prop} (hh : A.handled = none) (he : IsEnum s.heap e it 0 .none) (hit : s.heap.IsListIter it l 0) (hl : s.heap.IsList l its) (hei : e ≠ it) (hle : l ≠ e) (hli : l ≠ it) (hn : its.size ≤ sizeLine)
    (hQ : ∀ h' tk acc c as, (∀ b o, b ≠ e → b ≠ it → s.heap.get? b = some o → h'.get? b = some o) → h'.get? s.heap.objs.size = some { cls := .type "list", dict := none, data := .seq acc c, slots := #[] } → as.length = its.size → Got its s.heap.objs.size h' as →
      acc.toList = as.map Value.ref → Q (.ref s.heap.objs.size) { s with heap := h', toks := tk }) :
    wpAny (model prog w) A (call (.type "list") [.ref e]) Q E s := by
  refine callType_codes (Q₁ := fun obj s₁ => obj = .ref s.heap.objs.size ∧ s₁ = { s with heap := s.heap.push { cls := .type "list", data := .seq #[] } }) PySem.F.called_list (PySem.F.typeCall_list_1 _) PySem.F.entry_list_init (code_list_new _ ⟨rfl, rfl⟩) fun obj s₁ h₁ => ?_
  obtain ⟨rfl, rfl⟩ := h₁
  have hS : (s.heap.push { cls := .type "list", data := .seq #[] }).get? s.heap.objs.size = some { cls := .type "list", data := .seq #[] } := Heap.get?_push_size _ rfl
  have le : e < s.heap.objs.size := Heap.lt_size he
  have li : it < s.heap.objs.size := let ⟨_, x, _⟩ := hit; Heap.lt_size x
  have ll : l < s.heap.objs.size := let ⟨_, x, _⟩ := hl; Heap.lt_size x
  generalize hg : s.heap.push { cls := .type "list", data := .seq #[] } = h0 at hS
  have k0 : ∀ b o, s.heap.get? b = some o → h0.get? b = some o := fun b o x => by rw [← hg]; exact Heap.get?_push_of_some _ x
  have z0 : h0.objs.size = s.heap.objs.size + 1 := by rw [← hg, Heap.size_push]
  generalize hp : s.heap.objs.size = S at hS le li ll z0 hQ
  have a0 : At h0 e it l S 0 its := ⟨hit.at fun o x => k0 _ o x, hl.at fun o x => k0 _ o x, .inl ⟨.none, k0 _ _ he⟩⟩
  refine ⟨⟨_, hS, rfl⟩, PySem.F.args_list_init_2 _ _, ?_⟩
  show wpAny _ _ (do let old ← Builtin.List.listItems (.ref S); Builtin.List.listUpdate (.ref S) (fun _ => #[]); letGo old.toList.reverse; Builtin.List.listExtendWith (.ref S) (.ref e) .none) _ _ _
  refine wpAny_bind ?_
  unfold Builtin.List.listItems
  refine wpAny_bind (wpAny_seqItems hS rfl (wpAny_pure ?_))
  show wpAny _ _ (updateSeq S (fun _ => #[]) >>= fun _ => letGo (#[] : Array Value).toList.reverse >>= fun _ => Builtin.List.listExtendWith (.ref S) (.ref e) .none) _ _ _
  refine wpAny_bind (wpAny_updateSeq hS rfl ?_)
  have hS2 := Heap.get?_update_self (Obj.mapSeq (fun _ => (#[] : Array Value))) hS rfl
  have k2 : ∀ b o, b ≠ S → h0.get? b = some o → (h0.update S (Obj.mapSeq (fun _ => (#[] : Array Value)))).get? b = some o := fun b o hb x => (Heap.get?_update_other _ _ (Ne.symm hb)).trans x
  have a2 := a0.up (Nat.ne_of_lt le) (Nat.ne_of_lt li) (Nat.ne_of_lt ll) k2
  generalize h0.update S (Obj.mapSeq (fun _ => (#[] : Array Value))) = h2 at hS2 k2 a2
  refine wpAny_bind (wpAny_letGo ?_)
  have T2 : Shared.TypeIs { s with heap := h2 } (.ref e) "enumerate" := by
    rcases a2.2.2 with ⟨old, x⟩ | ⟨old, T, f, oT, x, _⟩
    · exact ⟨_, x, rfl⟩
    · exact ⟨_, x, rfl⟩
  unfold Builtin.List.listExtendWith
  refine wpAny_bind (wpAny_typeOf (T := "enumerate") T2 ?_)
  have g1 : Builtin.List.listSameRef (.ref S) (.ref e) = false := by simp [Builtin.List.listSameRef, Nat.ne_of_gt le]
  have g2 : (Value.type "enumerate" == Value.type "list") = false := by decide
  have g3 : (Value.type "enumerate" == Value.type "tuple") = false := by decide
  simp only [g1, g2, g3, Bool.or_false, Bool.false_eq_true, if_false]
  have e2 : ∃ old, IsEnum h2 e it 0 old := ⟨.none, k2 _ _ (Nat.ne_of_lt le) (k0 _ _ he)⟩
  obtain ⟨old2, e2⟩ := e2
  refine wpAny_bind (wpAny_pyIter_enum (s := { s with heap := h2 }) e2 ?_)
  refine wpAny_bind (wpAny_holding (hint_none T2 ?_))
  have key : ∀ (h : Heap) (tk c : Nat), (∀ b o, b ≠ S → h2.get? b = some o → h.get? b = some o) → h.get? S = some { cls := .type "list", data := .seq #[] c } →
      codeAny (model prog w) A.in1 (.builtin "list.extend.loop" ⟨[.ref S, .ref e, .none], []⟩) (wants (fun r s2 => r = Value.none ∧ Q (Value.ref S) s2) E) { s with heap := h, toks := tk } := by
    intro h tk c kh hSh
    refine turns (A := A.in1) (s := s) (h₁ := s.heap) (lo := S) hh (Nat.ne_of_gt le) (Nat.ne_of_gt li) (Nat.ne_of_gt ll) hei hle hli hn .none (Nat.le_refl _) (Nat.le_of_lt le) (Nat.le_of_lt li)
      (fun h' tk' acc c' as k3 k4 k5 k6 k7 => ⟨rfl, ?_⟩) its.size 0 h tk c #[] [] (Nat.sub_zero _) (Nat.zero_le _) (a2.up (Nat.ne_of_lt le) (Nat.ne_of_lt li) (Nat.ne_of_lt ll) kh)
      (fun b o h1 _ _ x => kh b o h1 (k2 b o h1 (k0 b o x))) hSh rfl rfl ⟨List.Pairwise.nil, (fun _ ha => nomatch ha), (fun j a hj => by simp at hj)⟩ ?_ (fun _ ha => nomatch ha)
    · exact hQ h' tk' acc c' as (fun b o h1 h2 x => k3 b o (by rw [← hp]; exact Nat.ne_of_lt (Heap.lt_size x)) h1 h2 x) k4 k5 k6 k7
    · exact Heap.lt_size hSh
  refine wpAny_ite_split (fun _ => ?_) (fun _ => wpAny_pure ⟨plainId_quiet PySem.F.plain_extend_loop _, key h2 _ _ (fun b o _ x => x) hS2⟩)
  refine wpAny_bind (wpAny_rule ?_)
  refine wpAny_bind ?_
  show wpAny _ _ (updateSeq S (·.push .none) >>= fun _ => updateSeq S (·.pop)) _ _ _
  refine wpAny_bind (wpAny_updateSeq hS2 rfl ?_)
  have hS3 := Heap.get?_update_self (Obj.mapSeq (·.push Value.none)) hS2 rfl
  refine wpAny_updateSeq (hz := by seq_fits) hS3 rfl ?_
  have hS4 := Heap.get?_update_self (Obj.mapSeq (·.pop)) hS3 rfl
  refine wpAny_pure ⟨plainId_quiet PySem.F.plain_extend_loop _, key _ _ _ (fun b o hb x => ?_) hS4⟩
  exact (Heap.get?_update_other _ _ (Ne.symm hb)).trans ((Heap.get?_update_other _ _ (Ne.symm hb)).trans x)
end
end Enl

namespace Enl
open PySem PySem.W PyProof.Rows L2
section
variable {X : Cx} {pins : List (Addr × Obj)} {σ : L2.St} {H H' : Hp} {s : Shared} {h' : Heap} {tk : Nat}
/-- many new objects tracked at once -/
theorem lay_many (I : Inv X pins σ H s) (hk : ∀ b o, s.heap.get? b = some o → h'.get? b = some o) (up : ∀ b u, H b = some u → H' b = some u) (off : ∀ b, b < s.heap.objs.size → H b = none → H' b = none)
    (new : ∀ b u, H' b = some u → H b = some u ∨ ObjOk X.prog X.w H' h' b u) : Inv X pins σ H' { s with heap := h', toks := tk } := by
  refine I.call' (ch := []) rfl ⟨fun b o q _ _ _ => hk b o q, fun b o q _ _ _ => ⟨o.slots, hk b o q⟩, fun b o q n _ => off b (Heap.lt_size q) n, fun b o q _ => ⟨o, hk b o q⟩, fun b xs q => up b _ q, fun b o u q => up b _ q, fun b ps q => ⟨#[], by rw [up b _ q]; simp⟩⟩ (fun b u q => ?_) I.bare (fun b z => by simp at z)
  rcases new b u q with q1 | q1
  · exact (I.hok b u q1).stay (fun d v _ y => hk d v y) (fun d y => up d _ y) (fun d xs y => up d _ y)
  · exact q1
end
/-- the pairs tracked at their addresses, numbered from n -/
def putE : Hp → Nat → List Addr → List V → Hp
  | H, n, a :: as, x :: xs => putE (upd H a (.tup [.int (n : Int), x])) (n + 1) as xs
  | H, _, _, _ => H
theorem putE_off {b : Addr} : ∀ (as : List Addr) (xs : List V) (n : Nat) (H : Hp), b ∉ as → putE H n as xs b = H b
  | [], _, _, _, _ => rfl
  | _ :: _, [], _, _, _ => rfl
  | a :: as, x :: xs, n, H, h => by
    show putE (upd H a (.tup [.int (n : Int), x])) (n + 1) as xs b = H b
    rw [putE_off as xs (n + 1) _ (fun z => h (List.mem_cons_of_mem _ z)), upd_ne (fun z => h (by rw [z]; exact List.mem_cons_self))]
theorem putE_at : ∀ (as : List Addr) (xs : List V) (n : Nat) (H : Hp), as.Nodup → ∀ (j : Nat) (a : Addr) (x : V), as[j]? = some a → xs[j]? = some x → putE H n as xs a = some (.tup [.int ((n + j : Nat) : Int), x])
  | [], _, _, _, _, j, a, x, h, _ => by simp at h
  | _ :: _, [], _, _, _, j, a, x, _, h => by simp at h
  | b :: as, y :: xs, n, H, nd, 0, a, x, h1, h2 => by
    obtain rfl : b = a := Option.some.inj h1
    obtain rfl : y = x := Option.some.inj h2
    show putE (upd H b (.tup [.int (n : Int), y])) (n + 1) as xs b = _
    rw [putE_off as xs (n + 1) _ (List.nodup_cons.mp nd).1, upd_same]
    rfl
  | b :: as, y :: xs, n, H, nd, j + 1, a, x, h1, h2 => by
    show putE (upd H b (.tup [.int (n : Int), y])) (n + 1) as xs a = _
    rw [putE_at as xs (n + 1) _ (List.nodup_cons.mp nd).2 j a x h1 h2]
    rw [show n + 1 + j = n + (j + 1) from by omega]
theorem vals_at : ∀ {xs : List V} {us : List Value}, Vals xs us → ∀ {i : Nat} {u : Value}, us[i]? = some u → ∃ x, xs[i]? = some x ∧ RelV x u
  | _, _, .nil, i, u, h => by simp at h
  | _, _, .cons r t, 0, u, h => by
    obtain rfl := Option.some.inj h
    exact ⟨_, rfl, r⟩
  | _, _, .cons r t, i + 1, u, h => vals_at t (i := i) (u := u) h
theorem refs_vals : ∀ as : List Addr, Vals (as.map V.ref) (as.map Value.ref)
  | [] => .nil
  | _ :: as => .cons rfl (refs_vals as)
/-- list(enumerate(xs)): a new list of new pairs -/
def rEnumL (K : PySem.W.Frag) : V → Hp → VK → Prop := fun x H Q => ∃ (a : Addr) (xs : List V), x = .ref a ∧ SqL K H a xs ∧ xs.length + 1 ≤ sizeLine ∧
  ∀ (H' : Hp) (p : Addr) (ts : List Addr), Same H H' → H p = none → (∀ t ∈ ts, H t = none) → H' p = some (.lst (ts.map V.ref)) → ts.length = xs.length →
    (∀ (j : Nat) (t : Addr) (y : V), ts[j]? = some t → xs[j]? = some y → H' t = some (.tup [.int (j : Int), y])) → Q (.ref p) H'
def tEnumL (K : PySem.W.Frag) (te : TE) : TE := fun σ H Q => te σ H fun x H1 => rEnumL K x H1 Q
section
variable {X : Cx} {e : Expr} {te : TE} {p p2 pos pos2 : Pos}
theorem pe_listEnum (hm : X.mg "list" = none) (hm2 : X.mg "enumerate" = none) (he : PE X e te) (hc : X.calm = true := by rfl) (hg : Gl X "list" := by rfl) (hg2 : Gl X "enumerate" := by rfl)
    (hs2 : starEach [e] X.env = [(false, eval e X.env)] := by rfl)
    (hs : starEach [.Call (.Name "enumerate" p2) [e] [] pos2] X.env = (false, eval (.Call (.Name "enumerate" p2) [e] [] pos2) X.env) :: starEach [] X.env := by rfl) :
    PE X (.Call (.Name "list" p) [.Call (.Name "enumerate" p2) [e] [] pos2] [] pos) (tEnumL X.K te) := by
  refine ⟨fun pins s σ H Q I hq => ?_⟩
  refine wpAny_Call_Name_kw (ld_blt I hg hm (by decide +kernel : bootBuiltins "list" = some (.type "list")) ?_)
  refine PyProof.Rows.callWith_type1 ?_ hs rfl
  rw [hs]
  show wpAny _ _ (spliced ((false, eval (.Call (.Name "enumerate" p2) [e] [] pos2) X.env) :: backTo pos (starEach [] X.env))) _ _ s
  refine Calls.spliced_cons ?_
  refine Call_ (ld_blt I hg2 hm2 boot_enumerate (PyProof.Rows.callWith_type1 ?_ hs2 rfl))
  rw [hs2]
  show wpAny _ _ (spliced ((false, eval e X.env) :: backTo pos2 (starEach [] X.env))) _ _ s
  refine Calls.spliced_cons (thn (he.run pins s σ H _ I hq) fun v s1 ⟨x, H1, I1, r1, a, xs, ex, hq1, hz1, q⟩ => ?_)
  subst ex
  obtain rfl : v = Value.ref a := r1
  refine Calls.spliced_nil ?_
  obtain ⟨its, rv, pl, hz⟩ := I1.list hq1
  refine call_enumerate_list pl.isList fun h' he' hit hsz hk => ?_
  refine Calls.spliced_nil ?_
  have la : a < s1.heap.objs.size := let ⟨_, z, _⟩ := pl.isList; Heap.lt_size z
  have hlen : its.length = xs.length := rv.length.symm
  refine Enl.call_list (s := { s1 with heap := h' }) (I1.ok.hd hc) he' hit (pl.isList.at fun o z => hk _ o z) (Nat.succ_ne_self _) (Nat.ne_of_lt (Nat.lt_succ_of_lt la)) (Nat.ne_of_lt la) (by rw [List.size_toArray, hlen]; exact hz) fun h2 tk acc c as k1 k2 k3 k4 k5 => ?_
  dsimp only at k1 k2 k3 k4 k5 ⊢
  have keep : ∀ b o, s1.heap.get? b = some o → h2.get? b = some o := fun b o z => k1 b o (Nat.ne_of_lt (Nat.lt_succ_of_lt (Heap.lt_size z))) (Nat.ne_of_lt (Heap.lt_size z)) (hk b o z)
  have big : s1.heap.objs.size ≤ h'.objs.size := by rw [hsz]; omega
  have nd : as.Nodup := List.Pairwise.imp (fun {a b} (z : a < b) => Nat.ne_of_lt z) k4.up
  have nS : h'.objs.size ∉ as := fun z => Nat.lt_irrefl _ (k4.ab _ z)
  have fr : ∀ b, s1.heap.objs.size ≤ b → H1 b = none := fun b z => I1.hok.fresh z
  have frA : ∀ t ∈ as, H1 t = none := fun t z => fr t (Nat.le_trans big (Nat.le_of_lt (k4.ab t z)))
  have lenA : as.length = xs.length := by rw [k3, List.size_toArray, hlen]
  generalize hH2 : putE (upd H1 h'.objs.size (.lst (as.map V.ref))) 0 as xs = H2
  have eS : H2 h'.objs.size = some (.lst (as.map V.ref)) := by rw [← hH2, putE_off as xs 0 _ nS, upd_same]
  have eT : ∀ (j : Nat) (t : Addr) (y : V), as[j]? = some t → xs[j]? = some y → H2 t = some (.tup [.int (j : Int), y]) := fun j t y z1 z2 => by
    have z3 := putE_at as xs 0 (upd H1 h'.objs.size (.lst (as.map V.ref))) nd j t y z1 z2
    rw [Nat.zero_add] at z3
    rw [← hH2]
    exact z3
  have eO : ∀ b, b ≠ h'.objs.size → b ∉ as → H2 b = H1 b := fun b z1 z2 => by rw [← hH2, putE_off as xs 0 _ z2, upd_ne z1]
  have up : ∀ b u, H1 b = some u → H2 b = some u := fun b u z => by
    rw [eO b (fun y => by rw [y, fr _ big] at z; cases z) (fun y => by rw [frA b y] at z; cases z)]
    exact z
  have J : Inv X pins σ H2 { s1 with heap := h2, toks := tk } := by
    refine lay_many I1 keep up (fun b z n => ?_) fun b u z => ?_
    · rw [eO b (fun y => absurd z (Nat.not_lt.mpr (by rw [y]; exact big))) (fun y => absurd z (Nat.not_lt.mpr (Nat.le_trans big (Nat.le_of_lt (k4.ab b y)))))]
      exact n
    · by_cases hb : b ∈ as
      · obtain ⟨j, hj⟩ := List.mem_iff_getElem?.mp hb
        obtain ⟨v, t, w1, w2⟩ := k4.prs j b hj
        rw [List.getElem?_toArray] at w1
        obtain ⟨x, w3, w4⟩ := vals_at rv w1
        have w5 := eT j b x hj w3
        rw [w5] at z
        cases z
        exact .inr ⟨by show 2 ≤ sizeLine; decide, [.int j t, v], .cons ⟨t, rfl⟩ (.cons w4 .nil), ⟨_, w2, rfl, _, rfl⟩⟩
      · by_cases hb2 : b = h'.objs.size
        · subst hb2
          rw [eS] at z
          cases z
          refine .inr ⟨by rw [List.length_map, lenA]; omega, acc.toList, c, by rw [k5]; exact refs_vals as, ?_⟩
          rw [Array.toArray_toList]
          exact k2
        · rw [eO b hb2 hb] at z
          exact .inl z
  exact ⟨.ref _, H2, J, rfl, q H2 _ as up (fr _ big) frA eS lenA eT⟩
end
end Enl

namespace Sp
open PySem L2
/-! ### a def of the text that keeps its promise, by its name -/
structure Cal (P : Program) (w : World) (K : PySem.W.Frag) (mg : Str → Option Value) (base : Heap) (k : Nat) (x : Str) (ps : List Str) (sp : Sp) : Prop where
  ex : ∃ (f : Addr) (fd : FuncData), FnOk P w K mg base CX0 k f fd ps sp ∧ mg x = some (.ref f) ∧ PySem.W.keepIn K (.ref f) = true ∧ Binds K fd ps []
theorem pe_own {X : Cx} {k : Nat} {x : Str} {ps : List Str} {sp : Sp} {e : Expr} {es : List Expr} {t : TA} {p pos : Pos} (c : Cal X.prog X.w X.K X.mg X.base k x ps sp) (hr : Room k X.A) (hg : Gl X x) (ha : PA X (e :: es) t)
    (hdb : (x == ("__debug__" : Str)) = false := by decide) (he : starEach (e :: es) X.env = (false, eval e X.env) :: starEach es X.env := by rfl) (hpl : (backTo pos (starEach es X.env)).any (·.1) = false := by rfl) :
    PE X (.Call (.Name x p) (e :: es) [] pos) (tCall sp [] E0 t) := by
  obtain ⟨f, fd, F, m, kp, b⟩ := c.ex
  exact pe_call F hr hg m kp b .nil pass0 ha hdb he hpl
theorem Cal.imp {P : Program} {w : World} {K : PySem.W.Frag} {mg : Str → Option Value} {base : Heap} {k : Nat} {x : Str} {ps : List Str} {sp sp' : L2.Sp} (c : Cal P w K mg base k x ps sp) (h : ∀ vs H Q E, sp' vs H Q E → sp vs H Q E) : Cal P w K mg base k x ps sp' := by
  obtain ⟨f, fd, F, m, kp, b⟩ := c.ex
  exact ⟨f, fd, F.imp h, m, kp, b⟩
/-- the built-ins' names are not the module's -/
structure Bt (mg : Str → Option Value) : Prop where
  len_ : mg "len" = none
  list_ : mg "list" = none
  enumerate_ : mg "enumerate" = none
  int_ : mg "int" = none
  bool_ : mg "bool" = none
  sum_ : mg "sum" = none
  sorted_ : mg "sorted" = none
  min_ : mg "min" = none
  max_ : mg "max" = none
  range_ : mg "range" = none
  isinstance_ : mg "isinstance" = none
  repr_ : mg "repr" = none
  tuple_ : mg "tuple" = none
  dict_ : mg "dict" = none
  abs_ : mg "abs" = none
  str_ : mg "str" = none
/-! ### heaps: all stays but the hand at a -/
/-- the hand: two whole numbers -/
def HandAt (H : Hp) (a : Addr) : Prop := ∃ x y : Int, H a = some (.lst [.int x, .int y]) ∧ 0 ≤ x ∧ 0 ≤ y ∧ y < 2147483587
structure Ext (a : Addr) (H H' : Hp) : Prop where
  keep : ∀ b o, H b = some o → b ≠ a → H' b = some o
  hand : HandAt H a → HandAt H' a
theorem Ext.refl {a : Addr} {H : Hp} : Ext a H H := ⟨fun _ _ h _ => h, fun h => h⟩
theorem Ext.trans {a : Addr} {H H1 H2 : Hp} (e : Ext a H H1) (f : Ext a H1 H2) : Ext a H H2 := ⟨fun b o h n => f.keep b o (e.keep b o h n) n, fun h => f.hand (e.hand h)⟩
theorem HandAt.same {a : Addr} {H H' : Hp} (s : Same H H') (h : HandAt H a) : HandAt H' a := by
  obtain ⟨x, y, e, r⟩ := h
  exact ⟨x, y, s _ _ e, r⟩
theorem Ext.same {a : Addr} {H H' : Hp} (s : Same H H') : Ext a H H' := ⟨fun b o h _ => s b o h, fun h => h.same s⟩
theorem same_new {H : Hp} {p : Addr} {o : HO} (h : H p = none) : Same H (upd H p o) := fun b x e => by
  rw [upd_ne (ne_of_none e h)]
  exact e
theorem Ext.new {a : Addr} {H : Hp} {p : Addr} {o : HO} (h : H p = none) : Ext a H (upd H p o) := .same (same_new h)
theorem HandAt.ne {a p : Addr} {H : Hp} (h : HandAt H a) (n : H p = none) : p ≠ a := by
  obtain ⟨x, y, e, r⟩ := h
  exact fun z => by rw [z, e] at n; cases n
theorem Ext.made {a : Addr} {H H' : Hp} (e : Ext a H H') (n : H a = none) : Same H H' := fun b o h => e.keep b o h (fun z => by rw [z, n] at h; cases h)
theorem Ext.free {a b : Addr} {H H' : Hp} (e : Ext a H H') (n : b ≠ a) (h : H' b = none) : H b = none := by
  cases q : H b with
  | none => rfl
  | some o => rw [e.keep b o q n] at h; cases h
/-- a list of whole numbers that stands still -/
def Nums (H : Hp) (a p : Addr) (ns : List Int) : Prop := H p = some (.lst (ns.map V.int)) ∧ p ≠ a
theorem Nums.up {H H' : Hp} {a p : Addr} {ns : List Int} (n : Nums H a p ns) (e : Ext a H H') : Nums H' a p ns := ⟨e.keep _ _ n.1 n.2, n.2⟩
theorem Nums.sq {K : PySem.W.Frag} {H : Hp} {a p : Addr} {ns : List Int} (n : Nums H a p ns) : SqL K H p (ns.map V.int) := .inl (.inl n.1)
theorem seqExt {K : PySem.W.Frag} {H H' : Hp} {a p : Addr} {xs : List V} (e : Ext a H H') (n : p ≠ a) (h : SqL K H p xs) : SqL K H' p xs := by
  rcases h with (h | ⟨o, h⟩) | h
  · exact .inl (.inl (e.keep _ _ h n))
  · exact .inl (.inr ⟨o, e.keep _ _ h n⟩)
  · exact .inr h
/-! ### numbers -/
theorem wide30 {n : Int} (h0 : 0 < n) (h : n < 2 ^ 62) : CDivW (0 : Int) n := wide_div (b := 62) h0 (by omega) (by decide) (by decide)
theorem divW {i n : Int} (h0 : 0 < n) (h : n < 2 ^ 62) : CDivW i n := wide_div (b := 62) h0 (by omega) (by decide) (by decide)
theorem mulW {i j : Int} (h1 : -(2 ^ 200) < i) (h2 : i < 2 ^ 200) (h3 : -(2 ^ 200) < j) (h4 : j < 2 ^ 200) : CMulW i j := wide_mul (a := 200) (b := 200) (by omega) (by omega) (by decide) (by decide) (by decide)
theorem small {n : Nat} (h : n ≤ 100000) : n ≤ sizeLine := Nat.le_trans h (by decide)
theorem smallLt {n : Nat} (h : n ≤ 100000) : n < sizeLine := Nat.lt_of_le_of_lt h (by decide)
theorem at0 {α : Type} {x : α} {r : List α} : atI (x :: r) 0 = some x := atI_nat (j := 0) rfl
theorem at1 {α : Type} {x y : α} {r : List α} : atI (x :: y :: r) 1 = some y := atI_nat (j := 1) rfl
/-! ### the promises of the law's own small defs -/
def spHand : L2.Sp := fun vs H Q _ => ∃ c k : Int, vs = [.int c, .int k] ∧ 0 ≤ k ∧ k ≤ 1000 ∧ ∀ p x y, H p = none → 0 ≤ x → 0 ≤ y → y < 2147483587 → Q (.ref p) (upd H p (.lst [.int x, .int y]))
def spDraw : L2.Sp := fun vs H Q _ => ∃ (a : Addr) (n : Int), vs = [.ref a, .int n] ∧ HandAt H a ∧ 0 < n ∧ n < 2 ^ 62 ∧ ∀ r H', 0 ≤ r → r < n → HandAt H' a → (∀ b, b ≠ a → H' b = H b) → Q (.int r) H'
theorem drawn {a : Addr} {H H' : Hp} (h : HandAt H' a) (k : ∀ b, b ≠ a → H' b = H b) : Ext a H H' := ⟨fun b o e n => by rw [k b n]; exact e, fun _ => h⟩
end Sp

namespace Sp
open PySem L2
/-! ### lists of whole numbers as data -/
abbrev di (ns : List Int) : PyData := .list (ns.map PyData.int)
theorem dpAll_ints {K : PySem.W.Frag} {H : Hp} : ∀ ns : List Int, DpAll K H (ns.map V.int) (ns.map PyData.int)
  | [] => .nil
  | n :: ns => .cons (.int n) (dpAll_ints ns)
theorem dp_ints {K : PySem.W.Frag} {H : Hp} {p : Addr} {ns : List Int} (h : SqL K H p (ns.map V.int)) : Dp K H (.ref p) (di ns) := .lst h (dpAll_ints ns)
theorem lay_ints : ∀ ns : List Int, PyData.canLayAll0 (ns.map PyData.int) = true
  | [] => by rw [List.map_nil, PyData.canLayAll0]
  | n :: ns => by rw [List.map_cons, PyData.canLayAll0, lay_ints ns, PyData.canLay0]; rfl
theorem dep_ints : ∀ ns : List Int, PyData.depthAll (ns.map PyData.int) = 0
  | [] => by rw [List.map_nil, PyData.depthAll]
  | n :: ns => by rw [List.map_cons, PyData.depthAll, dep_ints ns, PyData.depth]; rfl
theorem shaped_ints (ns : List Int) : SeqAt.shaped (di ns) = true := by
  unfold SeqAt.shaped
  rw [PyData.canLay0, lay_ints, PyData.depth, dep_ints]
  rfl
theorem eqvAll_ints : ∀ ns ms : List Int, PyData.eqvAll (ns.map PyData.int) (ms.map PyData.int) = decide (ns = ms)
  | [], [] => by rw [List.map_nil, PyData.eqvAll]; rfl
  | [], _ :: _ => by rw [List.map_nil, List.map_cons, PyData.eqvAll]; rfl
  | _ :: _, [] => by rw [List.map_nil, List.map_cons, PyData.eqvAll]; rfl
  | n :: ns, m :: ms => by
    rw [List.map_cons, List.map_cons, PyData.eqvAll, eqvAll_ints ns ms, PyData.eqv]
    by_cases h : n = m
    · by_cases h2 : ns = ms
      · subst h; subst h2; simp
      · simp [h, h2]
    · simp [h]
theorem eqv_ints (ns ms : List Int) : PyData.eqv (di ns) (di ms) = decide (ns = ms) := by rw [PyData.eqv, eqvAll_ints]
theorem eqvAll_same {xs : List PyData} (h : ∀ x ∈ xs, PyData.eqv x x = true) : PyData.eqvAll xs xs = true := by
  induction xs with
  | nil => rw [PyData.eqvAll]
  | cons x xs ih => rw [PyData.eqvAll, h x List.mem_cons_self, ih fun y hy => h y (List.mem_cons_of_mem _ hy)]; rfl
theorem SqL.new {K : PySem.W.Frag} {H : Hp} {p : Addr} {xs : List V} (h : H p = some (.lst xs)) : SqL K H p xs := .inl (.inl h)
theorem rep_one {x : V} (k : Nat) : (List.replicate k [x]).flatten = List.replicate k x := by
  induction k with
  | zero => rfl
  | succ k ih => rw [List.replicate_succ, List.flatten_cons, ih]; rfl
theorem rep_int (x : Int) (k : Nat) : List.replicate k (V.int x) = (List.replicate k x).map V.int := by rw [List.map_replicate]
theorem cut_len (xs : List V) (lo hi : Option Int) : (cutV xs lo hi).length ≤ xs.length := cutV_length xs lo hi
theorem cut_map {ns : List Int} (lo hi : Option Int) : ∃ ms : List Int, cutV (ns.map V.int) lo hi = ms.map V.int ∧ ms.length ≤ ns.length ∧ ∀ m ∈ ms, m ∈ ns := by
  refine ⟨(ns.drop (HT.sIx ns.length 0 lo)).take (HT.sIx ns.length ns.length hi - HT.sIx ns.length 0 lo), ?_, ?_, ?_⟩
  · unfold cutV
    rw [List.length_map, List.map_take, List.map_drop]
  · exact Nat.le_trans (List.length_take_le' _ _) (by rw [List.length_drop]; omega)
  · intro m hm
    exact List.mem_of_mem_drop (List.mem_of_mem_take hm)
theorem int_at {ns : List Int} {i : Nat} {x : V} (h : (ns.map V.int)[i]? = some x) : ∃ n, ns[i]? = some n ∧ x = .int n := by
  rw [List.getElem?_map] at h
  cases e : ns[i]? with
  | none => rw [e] at h; cases h
  | some n => rw [e] at h; exact ⟨n, rfl, (Option.some.inj h).symm⟩
theorem ref_at {ts : List Addr} {i : Nat} {x : V} (h : (ts.map V.ref)[i]? = some x) : ∃ t, ts[i]? = some t ∧ x = .ref t := by
  rw [List.getElem?_map] at h
  cases e : ts[i]? with
  | none => rw [e] at h; cases h
  | some n => rw [e] at h; exact ⟨n, rfl, (Option.some.inj h).symm⟩
theorem int_mem {ns : List Int} {i : Nat} {n : Int} (h : ns[i]? = some n) : n ∈ ns := List.mem_of_getElem? h
/-- the item at a place of a written list, the place drawn -/
theorem at_draw {α : Type} {xs : List α} {r : Int} (h0 : 0 ≤ r) (h1 : r < xs.length) : ∃ x, atI xs r = some x ∧ x ∈ xs := by
  obtain ⟨j, rfl⟩ : ∃ j : Nat, r = (j : Int) := ⟨r.toNat, by omega⟩
  have hj : j < xs.length := by omega
  exact ⟨xs[j], atI_nat (List.getElem?_eq_getElem hj), List.getElem_mem hj⟩
/-! ### the promises -/
def spCells (K : PySem.W.Frag) : L2.Sp := fun vs H Q _ => ∃ (s : Addr) (m : Nat) (ns : List Int), vs = [.ref s, .int m] ∧ SqL K H s (ns.map V.int) ∧ ns.length ≤ 63 ∧ m ≤ 63 ∧
  ∀ (H' : Hp) (p : Addr) (ts : List Addr) (cs : List Int), Same H H' → H p = none → H' p = some (.lst (ts.map V.ref)) → ts.length = cs.length → cs.length ≤ 64 →
    (∀ (j : Nat) (t : Addr) (c : Int), ts[j]? = some t → cs[j]? = some c → H' t = some (.tup [.int (j : Int), .int c])) → Q (.ref p) H'
def spGreat (K : PySem.W.Frag) : L2.Sp := fun vs H Q _ => ∃ (s : Addr) (ns : List Int), vs = [.ref s] ∧ SqL K H s (ns.map V.int) ∧ ∀ b, Q (.bl b) H
/-- sorted, none beyond 10 ** 15 -/
def Fine (ns : List Int) : Prop := ns.Pairwise (· ≤ ·) ∧ ∀ n ∈ ns, -1000000000000000 ≤ n ∧ n ≤ 1000000000000000
def spRow : L2.Sp := fun vs H Q _ => ∃ (a : Addr) (lo hi : Nat), vs = [.ref a, .int (lo : Int), .int (hi : Int)] ∧ HandAt H a ∧ lo ≤ hi ∧ hi ≤ 300 ∧
  ∀ (p : Addr) (ns : List Int) (H' : Hp), Ext a H H' → H p = none → H' p = some (.lst (ns.map V.int)) → lo ≤ ns.length → ns.length ≤ hi → Fine ns → Q (.ref p) H'
def spWhole : L2.Sp := fun vs H Q _ => ∃ x y : Int, vs = [.int x, .int y] ∧ Q (.bl (decide (x = y))) H
end Sp
namespace Sp
open PySem L2
/-! ### the numbers of a row below one -/
def cntB (ns : List Int) (n : Int) : Nat := ns.countP fun x => decide (x < n)
def spBelow (K : PySem.W.Frag) : L2.Sp := fun vs H Q _ => ∃ (p : Addr) (ns : List Int) (n : Int), vs = [.ref p, .int n] ∧ SqL K H p (ns.map V.int) ∧ ns.Pairwise (· ≤ ·) ∧ Q (.int (cntB ns n : Nat)) H
theorem cntB_le (ns : List Int) (n : Int) : cntB ns n ≤ ns.length := List.countP_le_length
/-- what stands ahead of the count is below, what stands behind is not -/
theorem cntB_lt : ∀ {ns : List Int} {n : Int}, ns.Pairwise (· ≤ ·) → ∀ {i : Nat} {x : Int}, ns[i]? = some x → (x < n ↔ i < cntB ns n)
  | [], n, _, i, x, h => by simp at h
  | y :: ns, n, hp, i, x, h => by
    have hp' := List.pairwise_cons.mp hp
    unfold cntB
    rw [List.countP_cons]
    by_cases hy : y < n
    · rw [if_pos (decide_eq_true hy)]
      cases i with
      | zero =>
        have e : y = x := Option.some.inj h
        subst e
        exact ⟨fun _ => Nat.succ_pos _, fun _ => hy⟩
      | succ i =>
        have ih := cntB_lt (n := n) hp'.2 (i := i) (x := x) h
        unfold cntB at ih
        rw [ih]
        omega
    · have z : List.countP (fun x => decide (x < n)) ns = 0 := by
        rw [List.countP_eq_zero]
        intro a ha hn
        have h1 := hp'.1 a ha
        have h2 := of_decide_eq_true hn
        omega
      rw [if_neg (by simpa using hy), z]
      cases i with
      | zero =>
        have e : y = x := Option.some.inj h
        subst e
        exact ⟨fun h => absurd h hy, fun h => absurd h (Nat.lt_irrefl _)⟩
      | succ i =>
        have h1 := hp'.1 x (List.mem_of_getElem? h)
        constructor
        · intro h2; omega
        · intro h2; omega
end Sp
namespace Sp
open PySem L2
def spTo (K : PySem.W.Frag) : L2.Sp := fun vs H Q _ => ∃ (p : Addr) (ns : List Int) (n : Int), vs = [.ref p, .int n] ∧ SqL K H p (ns.map V.int) ∧ ns.Pairwise (· ≤ ·) ∧ Q (.int (cntB ns (n + 1) : Nat)) H
end Sp
namespace Sp
open PySem L2
/-- by one step -/
def stepped (b s : Int) (m : Nat) : List Int := (List.range m).map fun (k : Nat) => b + s * (k : Int)
theorem stepped_succ (b s : Int) (m : Nat) : stepped b s (m + 1) = stepped b s m ++ [b + s * (m : Int)] := by
  unfold stepped
  rw [List.range_succ, List.map_append, List.map_singleton]
theorem stepped_len (b s : Int) (m : Nat) : (stepped b s m).length = m := by unfold stepped; rw [List.length_map, List.length_range]
theorem stepped_mem {b s x : Int} {m : Nat} (h : x ∈ stepped b s m) : ∃ k : Nat, k < m ∧ x = b + s * (k : Int) := by
  unfold stepped at h
  obtain ⟨k, hk, rfl⟩ := List.mem_map.mp h
  exact ⟨k, List.mem_range.mp hk, rfl⟩
theorem stepped_sorted {b s : Int} (hs : 0 ≤ s) : ∀ m : Nat, (stepped b s m).Pairwise (· ≤ ·)
  | 0 => List.Pairwise.nil
  | m + 1 => by
    rw [stepped_succ]
    refine List.pairwise_append.mpr ⟨stepped_sorted hs m, List.pairwise_singleton _ _, fun x hx y hy => ?_⟩
    obtain ⟨k, hk, rfl⟩ := stepped_mem hx
    rw [List.mem_singleton.mp hy]
    have h1 : (k : Int) ≤ (m : Int) := by omega
    have h2 := Int.mul_le_mul_of_nonneg_left h1 hs
    omega
theorem perm_fine {ns ms : List Int} (hp : ms.Perm ns) (hs : ms.Pairwise (· ≤ ·)) (hb : ∀ n ∈ ns, -1000000000000000 ≤ n ∧ n ≤ 1000000000000000) : Fine ms := ⟨hs, fun n hn => hb n (hp.mem_iff.mp hn)⟩
end Sp
namespace Sp
open PySem L2
theorem fil_take {α : Type} {xs : List α} {f : α → Bool} {i : Nat} {x : α} (h : xs[i]? = some x) : (xs.take (i + 1)).filter f = (xs.take i).filter f ++ (if f x = true then [x] else []) := by
  rw [List.take_add_one, h, List.filter_append]
  cases e : f x with
  | true => simp [e]
  | false => simp [e]
theorem take_all {α : Type} (xs : List α) : xs.take xs.length = xs := List.take_length
theorem fil_len (ns : List Int) (n : Int) : (ns.filter fun x => decide (x < n)).length = cntB ns n := List.countP_eq_length_filter.symm
theorem fil_len_le (ns : List Int) (n : Int) : (ns.filter fun x => decide (x ≤ n)).length = cntB ns (n + 1) := by
  unfold cntB
  rw [List.countP_eq_length_filter]
  congr 1
  refine List.filter_congr fun x _ => ?_
  by_cases h : x ≤ n
  · rw [decide_eq_true h, decide_eq_true (show x < n + 1 by omega)]
  · rw [decide_eq_false h, decide_eq_false (show ¬ x < n + 1 by omega)]
def spRight3 (K : PySem.W.Frag) : L2.Sp := fun vs H Q _ => ∃ (p : Addr) (ns : List Int) (n : Int), vs = [.ref p, .int n] ∧ SqL K H p (ns.map V.int) ∧ ns.Pairwise (· ≤ ·) ∧ ns.length ≤ 1000 ∧ ∀ H', Same H H' → Q (.bl true) H'
end Sp
namespace Sp
open PySem L2
/-- a turn of [x for x in ns if f x]: kept or left out -/
theorem fil_yes {H0 H : Hp} {D : Addr} {ns : List Int} {f : Int → Bool} {i : Nat} {y : Int} (nD : H0 D = none) (w1 : Same H0 H) (w2 : H D = some (.lst (((ns.take i).filter f).map V.int))) (hy : ns[i]? = some y) (hl : ns.length ≤ 1000) (h : f y = true) :
    ∃ acc, H D = some (.lst acc) ∧ acc.length < sizeLine ∧ Same H0 (upd H D (.lst (acc ++ [V.int y]))) ∧ (upd H D (.lst (acc ++ [V.int y]))) D = some (.lst (((ns.take (i + 1)).filter f).map V.int)) := by
  refine ⟨_, w2, smallLt ?_, fun c o hc => ?_, ?_⟩
  · have h1 : ((ns.take i).filter f).length ≤ (ns.take i).length := List.length_filter_le _ _
    have h2 : (ns.take i).length ≤ ns.length := List.length_take_le' _ _
    rw [List.length_map]
    omega
  · rw [upd_ne (ne_of_none hc nD)]
    exact w1 c o hc
  · rw [upd_same, fil_take hy, if_pos h, List.map_append]
    rfl
theorem fil_no {H : Hp} {D : Addr} {ns : List Int} {f : Int → Bool} {i : Nat} {y : Int} (w2 : H D = some (.lst (((ns.take i).filter f).map V.int))) (hy : ns[i]? = some y) (h : ¬ f y = true) : H D = some (.lst (((ns.take (i + 1)).filter f).map V.int)) := by
  rw [fil_take hy, if_neg h, List.append_nil]
  exact w2
end Sp
namespace Sp
open PySem L2
def spLaw (K : PySem.W.Frag) : L2.Sp := fun vs H Q _ => ∃ (a : Addr) (ns : List Int), vs = [.ref a] ∧ SqL K H a (ns.map V.int) ∧ ns.length ≤ 63 ∧ ∀ H', Q (.bl true) H'
/-- a row of the law: sorted, small, no hand -/
structure RowAt (H : Hp) (a p : Addr) (ns : List Int) : Prop where
  at_ : H p = some (.lst (ns.map V.int))
  ne : p ≠ a
  fine : Fine ns
  len : ns.length ≤ 300
theorem RowAt.up {H H' : Hp} {a p : Addr} {ns : List Int} (r : RowAt H a p ns) (e : Ext a H H') : RowAt H' a p ns := ⟨e.keep _ _ r.at_ r.ne, r.ne, r.fine, r.len⟩
theorem RowAt.sq {K : PySem.W.Frag} {H : Hp} {a p : Addr} {ns : List Int} (r : RowAt H a p ns) : SqL K H p (ns.map V.int) := SqL.new r.at_
end Sp
namespace Sp
open PySem L2
theorem RowAt.hne {H : Hp} {a p : Addr} {ns : List Int} (r : RowAt H a p ns) : p ≠ a := r.ne
/-- one more item at a comprehension's list, the hand apart -/
theorem ext_app {a D : Addr} {H0 H : Hp} {xs : List V} (nD : H0 D = none) (nDa : D ≠ a) (e : Ext a H0 H) : Ext a H0 (upd H D (.lst xs)) := ⟨fun c o hc hca => by
    rw [upd_ne (ne_of_none hc nD)]
    exact e.keep c o hc hca, fun hh => by
    obtain ⟨u, v, e1, r⟩ := e.hand hh
    exact ⟨u, v, by rw [upd_ne nDa.symm]; exact e1, r⟩⟩
theorem same_app {D : Addr} {H0 H : Hp} {xs : List V} (nD : H0 D = none) (e : Same H0 H) : Same H0 (upd H D (.lst xs)) := fun c o hc => by
    rw [upd_ne (ne_of_none hc nD)]
    exact e c o hc
theorem map_app1 {xs : List Int} {y : Int} : xs.map V.int ++ [V.int y] = (xs ++ [y]).map V.int := by rw [List.map_append]; rfl
end Sp

namespace Rv
open PySem PySem.W PyProof.Rows L2
section
variable {prog : Program} {w : World} {A : Around} {E : Value → Shared → Prop} {s : Shared}
/-- (u, v)[::-1], raw -/
theorem get_rev2 {t sl : Addr} {u v vs : Value} {Q : Value → Shared → Prop} (ht : IsTup s.heap t #[u, v]) (hs : s.heap.IsSliceOf sl .none .none vs) (ps : IsPart vs (some (-1)))
    (h : Q (.ref s.heap.objs.size) { s with heap := s.heap.push { cls := .type "tuple", data := .seq #[v, u] } }) : wpAny (model prog w) A (getItem (.ref t) (.ref sl)) Q E s := by
  obtain ⟨os, hos, hcs, hds⟩ := id hs
  have hTs : s.TypeIs (.ref sl) "slice" := ⟨os, hos, hcs⟩
  unfold getItem
  try with_reducible refine wpAny_holding ?_
  first | refine wpAny_bind (wpAny_pure ?_) | skip
  refine wpAny_bind (wpAny_sequenceKey ht.typeIs (by decide) ?_)
  refine wpAny_bind (wpAny_callSpecial?_slot (name := Str.ofString "__getitem__") ht.typeIs PyProof.Rows.slot_tuple_getitem (wpAny_call_entry PyProof.Rows.slot_tuple_getitem ht.typeIs entry_tuple_getitem ?_ (args_tuple_getitem _ _)))
  show wpAny _ _ (Builtin.Tuple.tupleItemsOf (.ref t) >>= _) _ _ s
  refine wpAny_bind (tupleItemsOf_ ht ?_)
  refine wpAny_bind (wpAny_typeOf hTs ?_)
  rw [if_pos (by decide)]
  refine wpAny_bind ?_
  unfold Builtin.Slice.sliceApplied Builtin.Slice.sliceFields
  refine wpAny_bind (wpAny_bind (wpAny_field hos hds (x := Value.none) rfl (wpAny_bind (wpAny_field hos hds (x := Value.none) rfl (wpAny_bind (wpAny_field hos hds (x := vs) rfl (wpAny_pure ?_)))))))
  refine wpAny_bind (HT.slicePart_ ps ?_)
  show wpAny _ _ (if ((-1 : Int) == 0) = true then _ else _) _ _ s
  rw [if_neg (by decide)]
  refine wpAny_bind (slicePart_none (wpAny_bind (slicePart_none (wpAny_bind (wpAny_pure ?_)))))
  show wpAny _ _ (match Builtin.Slice.sliceAdjust none none (-1) (2 : Int) with | (lo, hi) => pure (lo, (-1 : Int), Builtin.Slice.slicePlaces lo hi (-1))) _ _ s
  have e1 : Builtin.Slice.sliceAdjust none none (-1) (2 : Int) = (1, -1) := by decide +kernel
  have e2 : Builtin.Slice.slicePlaces (1 : Int) (-1) (-1) = 2 := by decide +kernel
  rw [e1]
  show wpAny _ _ (pure ((1 : Int), (-1 : Int), Builtin.Slice.slicePlaces (1 : Int) (-1) (-1))) _ _ s
  rw [e2]
  refine wpAny_pure ?_
  show wpAny _ _ (if ((1 : Int) == 0 && (-1 : Int) == 1 && (2 : Nat) == #[u, v].size) = true then _ else _) _ _ s
  rw [if_neg (by rw [show ((1 : Int) == 0) = false from rfl]; exact Bool.false_ne_true)]
  have e3 : ((List.range 2).filterMap fun (k : Nat) => #[u, v][((1 : Int) + (k : Int) * (-1)).toNat]?).toArray = #[v, u] := rfl
  rw [e3]
  have htake : sizeOk (.seq #[v, u]) := by show 2 ≤ sizeLine; decide
  first
    | exact wpAny_bind (m := Builtin.Tuple.tupleExact _) (wpAny_newObj_type (wpAny_pure ⟨_, rfl, wpAny_pure h⟩) htake)
    | exact wpAny_bind (m := Builtin.Tuple.tupleExact _) (wpAny_newObj_type (wpAny_bind (wpAny_pure (wpAny_pure ⟨_, rfl, wpAny_pure h⟩))) htake)
    | exact wpAny_bind (wpAny_bind (m := Builtin.Tuple.tupleExact _) (wpAny_newObj_type (wpAny_pure (wpAny_pure ⟨_, rfl, wpAny_pure h⟩)) htake))
end
/-- t[::-1], t a pair -/
def tRev2 (K : PySem.W.Frag) (te : TE) : TE := fun σ H Q => te σ H fun x H1 => ∃ a u v, x = .ref a ∧ SqT K H1 a [u, v] ∧ ∀ p, H1 p = none → Q (.ref p) (upd H1 p (.tup [v, u]))
theorem pe_rev2 {X : Cx} {e : Expr} {te : TE} {k : Nat} {p1 p2 p3 pos : Pos} (he : PE X e te) : PE X (.Subscript e (.Slice none none (some (.UnaryOp .USub (.Constant (.int 1) k p1) p2)) p3) pos) (tRev2 X.K te) := by
  refine ⟨fun pins s σ H Q I h => ?_⟩
  refine Subscript_ (thn (he.run pins s σ H _ I h) fun v s1 ⟨x, H1, I1, r1, q1⟩ => ?_)
  obtain ⟨a, u, w', rfl, hx, q⟩ := q1
  cases r1
  have hst : PO X (some (.UnaryOp .USub (.Constant (.int 1) k p1) p2)) (tPart (tUn (rU fun i => .int (-i)) (tC (.int 1)))) := po_some (pe_un un_neg pe_int)
  refine wpAny_Slice (thn (po_none.run pins s1 σ H1 (fun o H2 => o = none ∧ H2 = H1) I1 ⟨rfl, rfl⟩) fun vl s2 ⟨l, H2, I2, pl, el, e2⟩ => ?_)
  subst el e2
  refine thn (po_none.run pins s2 σ H2 (fun o H3 => o = none ∧ H3 = H2) I2 ⟨rfl, rfl⟩) fun vu s3 ⟨u3, H3, I3, pu, eu, e3⟩ => ?_
  subst eu e3
  refine thn (hst.run pins s3 σ H3 (fun o H4 => o = some (-1) ∧ H4 = H3) I3 ⟨1, rfl, -1, rfl, rfl, rfl⟩) fun vs s4 ⟨o, H4, I4, ps, eo, e4⟩ => ?_
  subst eo e4
  cases pl
  cases pu
  have I5 : Inv X pins σ H4 { s4 with heap := s4.heap.push { cls := .type "slice", data := .fields #[Value.none, Value.none, vs] } } := I4.kept (t' := s4.toks) fun b ob q => Heap.get?_push_of_some _ q
  obtain ⟨its, r, ht, hz⟩ := I5.tuple hx
  cases r with
  | cons ra rr =>
    cases rr with
    | cons rb rc =>
      cases rc
      show wpAny (model X.prog X.w) X.A (subscriptTail e (.Slice none none (some (.UnaryOp .USub (.Constant (.int 1) k p1) p2)) p3) (.ref a) (.ref s4.heap.objs.size)) (EP X pins σ Q) X.xe { s4 with heap := s4.heap.push { cls := .type "slice", data := .fields #[Value.none, Value.none, vs] } }
      refine tail_any (ops := [.ref a, .ref s4.heap.objs.size]) ht.typeIs (PyProof.Rows.slot_tuple_getitem.lookup) ?_ (by with_unfolding_all rfl)
      refine get_rev2 ht (Heap.IsSliceOf.new _ Value.none Value.none vs) ps ?_
      exact ⟨.ref _, _, I5.laid (t' := s4.toks) (o := .tup [w', u]) (fun b ob q => Heap.get?_push_of_some _ q) (Nat.le_refl _) ⟨by show 2 ≤ sizeLine; decide, _, .cons rb (.cons ra .nil), IsTup.new _ _⟩, rfl, q _ (I5.hok.fresh (Nat.le_refl _))⟩
end Rv

namespace Sp
open PySem L2
/-! ### sums below -/
def cntS (ns ms : List Int) (n : Int) : Nat := (ns.map fun x => cntB ms (n - x)).sum
theorem cntB_mono {ms : List Int} {n m : Int} (h : n ≤ m) : cntB ms n ≤ cntB ms m := by
  unfold cntB
  refine List.countP_mono_left fun x _ hx => ?_
  have := of_decide_eq_true hx
  exact decide_eq_true (by omega)
theorem cntS_nil (ms : List Int) (n : Int) : cntS [] ms n = 0 := rfl
theorem cntS_snoc (ns ms : List Int) (x n : Int) : cntS (ns ++ [x]) ms n = cntS ns ms n + cntB ms (n - x) := by
  unfold cntS
  rw [List.map_append, List.sum_append]
  rfl
theorem take_snoc {α : Type} {xs : List α} {i : Nat} {x : α} (h : xs[i]? = some x) : xs.take (i + 1) = xs.take i ++ [x] := by rw [List.take_add_one, h]; rfl
theorem sorted_le {ns : List Int} (hp : ns.Pairwise (· ≤ ·)) {i j : Nat} {x y : Int} (hx : ns[i]? = some x) (hy : ns[j]? = some y) (h : i ≤ j) : x ≤ y := by
  obtain ⟨h1, e1⟩ := List.getElem?_eq_some_iff.mp hx
  obtain ⟨h2, e2⟩ := List.getElem?_eq_some_iff.mp hy
  rcases Nat.lt_or_eq_of_le h with h | h
  · have := (List.pairwise_iff_getElem.mp hp) i j h1 h2 h
    rw [e1, e2] at this
    exact this
  · subst h
    rw [hx] at hy
    rw [Option.some.inj hy]
    exact Int.le_refl _
theorem cnt_sum (ms : List Int) (x n : Int) : (ms.filter fun y => decide (x + y < n)).length = cntB ms (n - x) := by
  unfold cntB
  rw [List.countP_eq_length_filter]
  congr 1
  refine List.filter_congr fun y _ => ?_
  by_cases h : x + y < n
  · rw [decide_eq_true h, decide_eq_true (show y < n - x by omega)]
  · rw [decide_eq_false h, decide_eq_false (show ¬ y < n - x by omega)]
theorem cnt_sum_le (ms : List Int) (x n : Int) : (ms.filter fun y => decide (x + y ≤ n)).length = cntB ms (n + 1 - x) := by
  unfold cntB
  rw [List.countP_eq_length_filter]
  congr 1
  refine List.filter_congr fun y _ => ?_
  by_cases h : x + y ≤ n
  · rw [decide_eq_true h, decide_eq_true (show y < n + 1 - x by omega)]
  · rw [decide_eq_false h, decide_eq_false (show ¬ y < n + 1 - x by omega)]
def spSums (K : PySem.W.Frag) : L2.Sp := fun vs H Q _ => ∃ (p q : Addr) (ns ms : List Int) (n : Int), vs = [.ref p, .ref q, .int n] ∧ SqL K H p (ns.map V.int) ∧ SqL K H q (ms.map V.int) ∧ ns.Pairwise (· ≤ ·) ∧ ms.Pairwise (· ≤ ·) ∧ Q (.int (cntS ns ms n : Nat)) H
def spSumsTo (K : PySem.W.Frag) : L2.Sp := fun vs H Q _ => ∃ (p q : Addr) (ns ms : List Int) (n : Int), vs = [.ref p, .ref q, .int n] ∧ SqL K H p (ns.map V.int) ∧ SqL K H q (ms.map V.int) ∧ ns.Pairwise (· ≤ ·) ∧ ms.Pairwise (· ≤ ·) ∧ Q (.int (cntS ns ms (n + 1) : Nat)) H
/-- the law's own count, pair by pair -/
def spDue (K : PySem.W.Frag) (d : Int) : L2.Sp := fun vs H Q _ => ∃ (p q : Addr) (ns ms : List Int) (n : Int), vs = [.ref p, .ref q, .int n] ∧ SqL K H p (ns.map V.int) ∧ SqL K H q (ms.map V.int) ∧ ms.length ≤ 1000 ∧ ∀ H', Same H H' → Q (.int (cntS ns ms (n + d) : Nat)) H'
/-- two rows in a pair -/
def spTwo : L2.Sp := fun vs H Q _ => ∃ (a : Addr) (b : Bool), vs = [.ref a, .bl b] ∧ HandAt H a ∧
  ∀ (t p q : Addr) (ns ms : List Int) (H' : Hp), Ext a H H' → H' t = some (.tup [.ref p, .ref q]) → t ≠ a → RowAt H' a p ns → RowAt H' a q ms → Q (.ref t) H'
def Mid (zs : List Int) : Prop := ∀ z ∈ zs, -(2 ^ 150) < z ∧ z < 2 ^ 150
def spAsked : L2.Sp := fun vs H Q _ => ∃ (a p q : Addr) (ns ms : List Int), vs = [.ref a, .ref p, .ref q] ∧ HandAt H a ∧ RowAt H a p ns ∧ RowAt H a q ms ∧
  ∀ (r : Addr) (zs : List Int) (H' : Hp), Ext a H H' → H r = none → H' r = some (.lst (zs.map V.int)) → zs.length ≤ 9 → Mid zs → Q (.ref r) H'
end Sp
namespace Sp
open PySem L2
theorem at_map {ns : List Int} {r x : Int} (h : atI ns r = some x) : atI (ns.map V.int) r = some (.int x) := by
  unfold atI at h ⊢
  rw [List.length_map]
  cases e : ixN ns.length r with
  | none => rw [e] at h; cases h
  | some j =>
    rw [e] at h
    show (ns.map V.int)[j]? = _
    rw [List.getElem?_map, show ns[j]? = some x from h]
    rfl
end Sp
namespace Sp
open PySem L2
theorem shaped_two (ns ms : List Int) : SeqAt.shaped (.list [di ns, di ms]) = true := by
  unfold SeqAt.shaped
  simp only [PyData.canLay0, PyData.canLayAll0, lay_ints, PyData.depth, PyData.depthAll, dep_ints]
  rfl
theorem eqv_two (ns ms : List Int) : PyData.eqv (.list [di ns, di ms]) (.list [di ns, di ms]) = true := by
  rw [PyData.eqv]
  refine eqvAll_same fun x hx => ?_
  simp only [List.mem_cons, List.not_mem_nil, or_false] at hx
  rcases hx with rfl | rfl
  · rw [eqv_ints]; exact decide_eq_true rfl
  · rw [eqv_ints]; exact decide_eq_true rfl
theorem dp_two {K : PySem.W.Frag} {H : Hp} {l p q : Addr} {ns ms : List Int} (h : H l = some (.lst [.ref p, .ref q])) (hp : SqL K H p (ns.map V.int)) (hq : SqL K H q (ms.map V.int)) : Dp K H (.ref l) (.list [di ns, di ms]) :=
  .lst (SqL.new h) (.cons (dp_ints hp) (.cons (dp_ints hq) .nil))
end Sp

namespace Sp
open PySem L2
/-- a loop over enumerate(list), the list standing still -/
theorem for_enum {K : PySem.W.Frag} {a : Addr} {xs : List V} {g : TG} {tb : TS} {D : Ends} {σ : L2.St} {H : Hp} (Pv : Nat → L2.St → Hp → Prop) (h0 : Pv 0 σ H) (hl : ∀ i σ H, i ≤ xs.length → Pv i σ H → SqL K H a xs)
    (hs : ∀ i x σ H T, xs[i]? = some x → Pv i σ H → H T = none → g (.ref T) σ (upd H T (.tup [.int (i : Nat), x])) fun σ2 H2 => tb { D with nx := Pv (i + 1), ct := Pv (i + 1), bk := D.nx } σ2 H2) (hd : ∀ σ H, Pv xs.length σ H → D.nx σ H) :
    ∃ W : Nat → Nat → L2.St → Hp → Prop, (∃ m, W 0 m σ H) ∧ ∀ i m σ H, W i m σ H →
      ((Ite K a).stop i H ∧ D.nx σ H) ∨ ((Ite K a).go i H ∧ ∃ N : L2.St → Hp → Prop, (∀ σ' H', N σ' H' → ∃ m', m' < m ∧ W (i + 1) m' σ' H') ∧ ∀ x H', (Ite K a).yld i H x H' → g x σ H' fun σ2 H2 => tb { D with nx := N, ct := N, bk := D.nx } σ2 H2) := by
  refine ⟨fun i m σ H => m = xs.length - i ∧ i ≤ xs.length ∧ Pv i σ H, ⟨xs.length, by simp, Nat.zero_le _, h0⟩, fun i m σ H w => ?_⟩
  obtain ⟨rfl, hi, p⟩ := w
  have q := hl i σ H hi p
  by_cases hlt : i < xs.length
  · refine .inr ⟨⟨xs, xs[i], q, List.getElem?_eq_getElem hlt⟩, Pv (i + 1), fun σ' H' p' => ⟨xs.length - (i + 1), by omega, rfl, hlt, p'⟩, fun x H' y => ?_⟩
    obtain ⟨T, z, rfl, nT, rfl, f⟩ := y
    exact hs i z σ H T (f xs q) p nT
  · obtain rfl : i = xs.length := by omega
    exact .inl ⟨⟨xs, q, Nat.le_refl _⟩, hd σ H p⟩
/-! ### is_row, of anything -/
abbrev kinds : List String := ["bool", "str", "NoneType", "list", "tuple", "dict"]
def NoInt (K : PySem.W.Frag) (H : Hp) (x : V) : Prop := ∃ T, T ∈ kinds ∧ TyX K H x (.type T)
def Kn (K : PySem.W.Frag) (H : Hp) (x : V) : Prop := (∃ n, x = .int n) ∨ NoInt K H x
theorem TyX.up {K : PySem.W.Frag} {H H' : Hp} {x : V} {t : Value} (s : Same H H') (h : TyX K H x t) : TyX K H' x t := by
  cases h with
  | base b =>
    cases b with
    | non => exact .base .non
    | bl y => exact .base (.bl y)
    | int i => exact .base (.int i)
    | str y => exact .base (.str y)
    | flt y => exact .base (.flt y)
    | lst e => exact .base (.lst (s _ _ e))
    | frz e => exact .base (.frz (s _ _ e))
    | tup e => exact .base (.tup (s _ _ e))
    | dK e => exact .base (.dK (s _ _ e))
    | dT e => exact .base (.dT (s _ _ e))
    | ins e c1 c2 c3 c4 c5 => exact .base (.ins (s _ _ e) c1 c2 c3 c4 c5)
  | byt b => exact .byt b
  | set e => exact .set (s _ _ e)
  | kList e c => exact .kList e c
  | kTuple e c => exact .kTuple e c
  | kDict e c => exact .kDict e c
  | fTuple e => exact .fTuple (s _ _ e)
  | fDict e => exact .fDict (s _ _ e)
theorem NoInt.up {K : PySem.W.Frag} {H H' : Hp} {x : V} (s : Same H H') (h : NoInt K H x) : NoInt K H' x := let ⟨T, m, t⟩ := h; ⟨T, m, TyX.up s t⟩
theorem Kn.up {K : PySem.W.Frag} {H H' : Hp} {x : V} (s : Same H H') (h : Kn K H x) : Kn K H' x := h.imp id fun z => z.up s
theorem NoInt.ne {K : PySem.W.Frag} {H : Hp} {x : V} (h : NoInt K H x) (n : Int) : x ≠ .int n := by
  rintro rfl
  obtain ⟨T, m, t⟩ := h
  cases t with
  | base b =>
    cases b
    simp at m
def IsRow (xs : List V) : Prop := ∃ ns : List Int, xs = ns.map V.int ∧ ns.Pairwise (· ≤ ·)
def spIsWhole (K : PySem.W.Frag) : L2.Sp := fun vs H Q _ => ∃ x : V, vs = [x] ∧ (((∃ n, x = .int n) ∧ Q (.bl true) H) ∨ (NoInt K H x ∧ Q (.bl false) H))
def spIsRow (K : PySem.W.Frag) : L2.Sp := fun vs H Q _ => ∃ x : V, vs = [x] ∧ ((∃ (p : Addr) (xs : List V), x = .ref p ∧ SqL K H p xs ∧ (∀ y ∈ xs, Kn K H y) ∧ ∀ (b : Bool) (H' : Hp), (b = true ↔ IsRow xs) → Same H H' → Q (.bl b) H') ∨
  (∃ T, T ∈ ["int", "bool", "str", "NoneType", "tuple", "dict"] ∧ TyX K H x (.type T) ∧ Q (.bl false) H))
theorem IsRow.map (ns : List Int) : IsRow (ns.map V.int) ↔ ns.Pairwise (· ≤ ·) := by
  constructor
  · rintro ⟨ms, e, h⟩
    have e2 : ns = ms := by
      have := congrArg (List.map fun v => match v with | V.int i => i | _ => 0) e
      rw [List.map_map, List.map_map] at this
      have f : ((fun v => match v with | V.int i => i | _ => (0 : Int)) ∘ V.int) = id := rfl
      rw [f, List.map_id, List.map_id] at this
      exact this
    rw [e2]
    exact h
  · exact fun h => ⟨ns, rfl, h⟩
theorem tyList {K : PySem.W.Frag} {H : Hp} {p : Addr} {xs : List V} (h : SqL K H p xs) : TyX K H (.ref p) (.type "list") := by
  rcases h with (h | ⟨o, h⟩) | ⟨o, its, n, hk, hc, _⟩
  · exact .base (.lst h)
  · exact .base (.frz h)
  · exact .kList hk hc
end Sp
namespace Sp
open PySem L2
/-! ### joined, turned, counted -/
theorem sorted_one {ns ms : List Int} (hp : ns.Perm ms) (h1 : ns.Pairwise (· ≤ ·)) (h2 : ms.Pairwise (· ≤ ·)) : ns = ms := hp.eq_of_pairwise (fun a b _ _ x y => Int.le_antisymm x y) h1 h2
def spJoined : L2.Sp := fun vs H Q _ => ∃ (p q : Addr) (ns ms : List Int), vs = [.ref p, .ref q] ∧ H p = some (.lst (ns.map V.int)) ∧ H q = some (.lst (ms.map V.int)) ∧ ns.length + ms.length ≤ 10000 ∧
  ∀ (r : Addr) (js : List Int) (H' : Hp), Same H H' → H r = none → H' r = some (.lst (js.map V.int)) → js.Perm (ns ++ ms) → js.Pairwise (· ≤ ·) → Q (.ref r) H'
def turned (ns : List Int) : List Int := ns.reverse.map fun x => 0 - x
def spTurned (K : PySem.W.Frag) : L2.Sp := fun vs H Q _ => ∃ (p : Addr) (ns : List Int), vs = [.ref p] ∧ SqL K H p (ns.map V.int) ∧ ns.length ≤ 10000 ∧ ∀ (r : Addr) (H' : Hp), Same H H' → H r = none → H' r = some (.lst ((turned ns).map V.int)) → Q (.ref r) H'
theorem cntB_perm {ns ms : List Int} (h : ns.Perm ms) (n : Int) : cntB ns n = cntB ms n := h.countP_eq _
theorem cntB_append (ns ms : List Int) (n : Int) : cntB (ns ++ ms) n = cntB ns n + cntB ms n := List.countP_append
theorem cntB_next : ∀ (ns : List Int) (n : Int), cntB ns (n + 1) = cntB ns n + ns.count n
  | [], n => rfl
  | x :: ns, n => by
    have ih := cntB_next ns n
    unfold cntB at ih ⊢
    rw [List.countP_cons, List.countP_cons, List.count_cons, ih]
    by_cases h : x < n
    · rw [if_pos (decide_eq_true (show x < n + 1 by omega)), if_pos (decide_eq_true h), if_neg (by simp; omega)]
      omega
    · by_cases h2 : x = n
      · rw [if_pos (decide_eq_true (show x < n + 1 by omega)), if_neg (by simpa using h), if_pos (by simp [h2])]
        omega
      · rw [if_neg (by simp; omega), if_neg (by simpa using h), if_neg (by simpa using h2)]
        omega
theorem cntB_turned (ns : List Int) (n : Int) : cntB (turned ns) (0 - n) + cntB ns (n + 1) = ns.length := by
  have key : ∀ l : List Int, cntB (l.map fun x => 0 - x) (0 - n) + cntB l (n + 1) = l.length := by
    intro l
    induction l with
    | nil => rfl
    | cons x l ih =>
      unfold cntB at ih ⊢
      rw [List.map_cons, List.countP_cons, List.countP_cons, List.length_cons]
      by_cases h : x < n + 1
      · rw [if_pos (decide_eq_true h), if_neg (by simp; omega)]
        omega
      · rw [if_pos (decide_eq_true (show 0 - x < 0 - n by omega)), if_neg (by simp; omega)]
        omega
  have h1 := key ns.reverse
  have h2 : cntB ns.reverse (n + 1) = cntB ns (n + 1) := cntB_perm (List.reverse_perm ns) _
  rw [h2, List.length_reverse] at h1
  exact h1
theorem turned_sorted {ns : List Int} (h : ns.Pairwise (· ≤ ·)) : (turned ns).Pairwise (· ≤ ·) := by
  unfold turned
  rw [List.pairwise_map, List.pairwise_reverse]
  exact h.imp fun h => by omega
def spCounts (K : PySem.W.Frag) : L2.Sp := fun vs H Q _ => ∃ (p q b : Addr) (ns ms js : List Int) (n : Int), vs = [.ref p, .ref q, .ref b, .int n] ∧ SqL K H p (ns.map V.int) ∧ SqL K H q (ms.map V.int) ∧ SqL K H b (js.map V.int) ∧
  ns.Pairwise (· ≤ ·) ∧ ms.Pairwise (· ≤ ·) ∧ js.Pairwise (· ≤ ·) ∧ js.Perm (ns ++ ms) ∧ ns.length ≤ 10000 ∧ ∀ H', Same H H' → Q (.bl true) H'
end Sp
namespace Sp
open PySem L2
theorem ne_same {x : V} {H : Hp} {Q : VK} (hs : scal x x = true) (q : Q (.bl false) H) : rNe x x H Q := ⟨hs, by rw [decide_eq_true rfl]; exact q⟩
theorem eq_same {x : V} {H : Hp} {Q : VK} (hs : scal x x = true) (q : Q (.bl true) H) : rEq x x H Q := ⟨hs, by rw [decide_eq_true rfl]; exact q⟩
end Sp
namespace Sp
open PySem L2
theorem map_cnt_sorted {js zs : List Int} (h : zs.Pairwise (· ≤ ·)) : (zs.map fun z => ((cntB js z : Nat) : Int)).Pairwise (· ≤ ·) := by
  rw [List.pairwise_map]
  exact h.imp fun h => Int.ofNat_le.mpr (cntB_mono h)
/-- a turn of [f x for x in ns] -/
theorem map_turn {H0 H : Hp} {D : Addr} {ns : List Int} {f : Int → Int} {i : Nat} {y : Int} (nD : H0 D = none) (w1 : Same H0 H) (w2 : H D = some (.lst (((ns.take i).map f).map V.int))) (hy : ns[i]? = some y) (hl : ns.length ≤ 10000) :
    ∃ acc, H D = some (.lst acc) ∧ acc.length < sizeLine ∧ Same H0 (upd H D (.lst (acc ++ [V.int (f y)]))) ∧ (upd H D (.lst (acc ++ [V.int (f y)]))) D = some (.lst (((ns.take (i + 1)).map f).map V.int)) := by
  refine ⟨_, w2, smallLt ?_, same_app nD w1, ?_⟩
  · have := List.length_take_le' i ns
    rw [List.length_map, List.length_map]
    omega
  · rw [upd_same, take_snoc hy, map_app1, List.map_append, List.map_append, List.map_append]
    rfl
end Sp

namespace Sp
open PySem L2
/-- the scope of a comprehension that the j-th statement of a def stores -/
def compScopeAt (s : Stmt) (j : Nat) : Scope := match (defBody s).getD j (.Pass ⟨0, 0, 0, 0⟩) with
  | .Assign _ (.ListComp _ _ sc _) _ => sc
  | _ => { kind := .function, names := [], isGenerator := false, isCoroutine := false }
/-! ### sums, otherwise -/
theorem cntB_cons (y : Int) (ms : List Int) (n : Int) : cntB (y :: ms) n = cntB ms n + (if y < n then 1 else 0) := by
  unfold cntB
  rw [List.countP_cons]
  by_cases h : y < n
  · rw [if_pos (decide_eq_true h), if_pos h]
  · rw [if_neg (by simpa using h), if_neg h]
theorem cntS_cons (x : Int) (ns ms : List Int) (n : Int) : cntS (x :: ns) ms n = cntB ms (n - x) + cntS ns ms n := by
  unfold cntS
  rw [List.map_cons, List.sum_cons]
theorem cntS_cons_r : ∀ (ns : List Int) (y : Int) (ms : List Int) (n : Int), cntS ns (y :: ms) n = cntB ns (n - y) + cntS ns ms n
  | [], y, ms, n => rfl
  | x :: ns, y, ms, n => by
    rw [cntS_cons, cntS_cons, cntS_cons_r ns y ms n, cntB_cons, cntB_cons]
    have : (y < n - x) ↔ (x < n - y) := by omega
    by_cases h : y < n - x
    · rw [if_pos h, if_pos (this.mp h)]
      omega
    · rw [if_neg h, if_neg (fun k => h (this.mpr k))]
      omega
theorem cntS_nil_r : ∀ (ns : List Int) (n : Int), cntS ns [] n = 0
  | [], n => rfl
  | x :: ns, n => by rw [cntS_cons, cntS_nil_r ns n]; rfl
theorem cntS_comm : ∀ (ns ms : List Int) (n : Int), cntS ms ns n = cntS ns ms n
  | [], ms, n => by rw [cntS_nil_r]; rfl
  | x :: ns, ms, n => by rw [cntS_cons_r, cntS_cons, cntS_comm ns ms n]
theorem cntS_append (ns ks ms : List Int) (n : Int) : cntS (ns ++ ks) ms n = cntS ns ms n + cntS ks ms n := by
  unfold cntS
  rw [List.map_append, List.sum_append]
theorem cntS_perm {ns ks : List Int} (h : ns.Perm ks) (ms : List Int) (n : Int) : cntS ns ms n = cntS ks ms n := (h.map _).sum_nat
theorem cntS_shift : ∀ (ns ms : List Int) (n b : Int), cntS (ns.map fun x => x + b) ms (n + b) = cntS ns ms n
  | [], ms, n, b => rfl
  | x :: ns, ms, n, b => by
    rw [List.map_cons, cntS_cons, cntS_cons, cntS_shift ns ms n b]
    rw [show n + b - (x + b) = n - x from by omega]
theorem cntB_three : ∀ (ms : List Int) (n : Int), cntB (ms.map fun x => x * 3) (n * 3) = cntB ms n
  | [], n => rfl
  | y :: ms, n => by
    rw [List.map_cons, cntB_cons, cntB_cons, cntB_three ms n]
    by_cases h : y < n
    · rw [if_pos h, if_pos (by omega)]
    · rw [if_neg h, if_neg (by omega)]
theorem cntS_three : ∀ (ns ms : List Int) (n : Int), cntS (ns.map fun x => x * 3) (ms.map fun x => x * 3) (n * 3) = cntS ns ms n
  | [], ms, n => rfl
  | x :: ns, ms, n => by
    rw [List.map_cons, cntS_cons, cntS_cons, cntS_three ns ms n]
    rw [show n * 3 - x * 3 = (n - x) * 3 from by omega, cntB_three]
theorem cntS_turned (ns ms : List Int) (n : Int) : cntS (turned ns) (turned ms) (0 - n + 1) + cntS ns ms n = ns.length * ms.length := by
  have key : ∀ l : List Int, cntS (l.map fun x => 0 - x) (turned ms) (0 - n + 1) + cntS l ms n = l.length * ms.length := by
    intro l
    induction l with
    | nil => rw [List.length_nil, Nat.zero_mul]; rfl
    | cons x l ih =>
      rw [List.map_cons, cntS_cons, cntS_cons, List.length_cons, Nat.add_mul, Nat.one_mul]
      have h := cntB_turned ms (n - x - 1)
      rw [show n - x - 1 + 1 = n - x from by omega] at h
      rw [show 0 - n + 1 - (0 - x) = 0 - (n - x - 1) from by omega]
      omega
  have h1 := key ns.reverse
  rw [List.length_reverse, cntS_perm (List.reverse_perm ns)] at h1
  exact h1
theorem cntB_all : ∀ {ms : List Int} {n : Int}, (∀ y ∈ ms, y < n) → cntB ms n = ms.length
  | [], n, _ => rfl
  | y :: ms, n, h => by
    rw [cntB_cons, cntB_all fun z hz => h z (List.mem_cons_of_mem _ hz), if_pos (h y List.mem_cons_self), List.length_cons]
theorem cntS_all : ∀ {ns ms : List Int} {n : Int}, (∀ x ∈ ns, ∀ y ∈ ms, x + y < n) → cntS ns ms n = ns.length * ms.length
  | [], ms, n, _ => by rw [List.length_nil, Nat.zero_mul]; rfl
  | x :: ns, ms, n, h => by
    rw [cntS_cons, cntS_all (fun z hz => h z (List.mem_cons_of_mem _ hz)), cntB_all (fun y hy => (by have := h x List.mem_cons_self y hy; omega)), List.length_cons, Nat.add_mul, Nat.one_mul, Nat.add_comm]
theorem cntS_mono {ns ms : List Int} {n m : Int} (h : n ≤ m) : cntS ns ms n ≤ cntS ns ms m := by
  induction ns with
  | nil => exact Nat.le_refl _
  | cons x ns ih =>
    rw [cntS_cons, cntS_cons]
    exact Nat.add_le_add (cntB_mono (by omega)) ih
theorem cntS_one (b : Int) (ms : List Int) (n : Int) : cntS [b] ms n = cntB ms (n - b) := by rw [cntS_cons]; rfl
theorem map_cntS_sorted {ns ms zs : List Int} (h : zs.Pairwise (· ≤ ·)) : (zs.map fun z => ((cntS ns ms z : Nat) : Int)).Pairwise (· ≤ ·) := by
  rw [List.pairwise_map]
  exact h.imp fun h => Int.ofNat_le.mpr (cntS_mono h)
theorem div_fine {ns : List Int} (h : Fine ns) : Fine (ns.map fun x => x / 4) := by
  refine ⟨?_, fun z hz => ?_⟩
  · rw [List.pairwise_map]
    exact h.1.imp fun h => Int.ediv_le_ediv (by decide) h
  · obtain ⟨x, hx, rfl⟩ := List.mem_map.mp hz
    have := h.2 x hx
    omega
theorem shift_sorted {ns : List Int} (b : Int) (h : ns.Pairwise (· ≤ ·)) : (ns.map fun x => x + b).Pairwise (· ≤ ·) := by
  rw [List.pairwise_map]
  exact h.imp fun h => by omega
theorem three_sorted {ns : List Int} (h : ns.Pairwise (· ≤ ·)) : (ns.map fun x => x * 3).Pairwise (· ≤ ·) := by
  rw [List.pairwise_map]
  exact h.imp fun h => by omega
def spRight7 (K : PySem.W.Frag) : L2.Sp := fun vs H Q _ => ∃ (p q t : Addr) (ns ms ks : List Int) (n b : Int), vs = [.ref p, .ref q, .ref t, .int n, .int b] ∧ H p = some (.lst (ns.map V.int)) ∧ H q = some (.lst (ms.map V.int)) ∧ H t = some (.lst (ks.map V.int)) ∧
  Fine ns ∧ Fine ms ∧ Fine ks ∧ ns.length ≤ 300 ∧ ms.length ≤ 300 ∧ ks.length ≤ 300 ∧ -(2 ^ 160) < n ∧ n < 2 ^ 160 ∧ ∀ H', Same H H' → Q (.bl true) H'
end Sp
namespace Sp
open PySem L2
/-- within a comprehension: the written part by its own name -/
theorem pi_listK {X : Cx} {K : PySem.W.Frag} {tg l : Expr} {tl : TE} (hK : X.K = K) (hl : PE X l tl) : PI X tg l (iList K tl) := hK ▸ pi_list hl
end Sp
namespace Sp
open PySem L2
theorem mid_div {zs : List Int} (h : Mid zs) : Mid (zs.map fun x => x / 4) := fun z hz => by
  obtain ⟨x, hx, rfl⟩ := List.mem_map.mp hz
  have := h x hx
  omega
end Sp

/-! defs that ask repr of a list: they are called where no repr is under way. -/
namespace Gd
open PySem PySem.Spec PyProof.Rows L2 Sp
/-- a def that keeps its promise wherever no repr is under way -/
structure FnG (P : Program) (w : World) (K : PySem.W.Frag) (mg : Str → Option Value) (base : Heap) (k : Nat) (f : Addr) (fd : FuncData) (ps : List Str) (sp : L2.Sp) : Prop where
  many : ∀ vs H Q E, sp vs H Q E → vs.length = ps.length
  goes : ∀ (B : Around) (fs : List Env) (z : Shared) (H : Hp) (ws : Args) (us : List Value) (vs : List V) (Q : VK) (E : XK), B.guards = some [] → Room k B →
    Env0 P w K mg base B fs z H → BindsTo z fd ws (ps.zip us) → Vals vs us → sp vs H Q E → codeAny (model P w) B (.call (.ref f) ws) (CR CX0 fs P w H z Q E) z
/-- such a def of the text by its name -/
structure CalG (P : Program) (w : World) (K : PySem.W.Frag) (mg : Str → Option Value) (base : Heap) (k : Nat) (x : Str) (ps : List Str) (sp : L2.Sp) : Prop where
  ex : ∃ (f : Addr) (fd : FuncData), FnG P w K mg base k f fd ps sp ∧ mg x = some (.ref f) ∧ PySem.W.keepIn K (.ref f) = true ∧ Binds K fd ps []
section
variable {P : Program} {w : World} {K : PySem.W.Frag} {mg : Str → Option Value} {base : Heap}
theorem okG {x qual : Str} {st : Stmt} {f : Addr} {fd : FuncData} {N ps : List Str} {k : Nat} {sp : L2.Sp} (F : Fun K x qual st f fd) (S : FnScope N ps (defScope st)) (many : ∀ vs H Q E, sp vs H Q E → vs.length = ps.length)
    (go : ∀ (c : Value) (B : Around) (fs : List Env) (z : Shared) (H : Hp) (vs : List V) (Q : VK) (E : XK), B.guards = some [] → Room k (B.deeper (envOfC qual (defScope st) z.heap.objs.size f c)) → sp vs H Q E →
      ∃ t, PSs (cxOf CX0 P w K mg base N qual (defScope st) f c B fs z H E).nox (defBody st) t ∧ t { nx := fun _ H2 => Q .non H2, rt := Q } (start N vs) H) : FnG P w K mg base (k + 1) f fd ps sp := by
  obtain ⟨oc, od, kV, doc, pm, an, c, ct, osl, rfl, lk, hc⟩ := F.ex
  refine ⟨many, fun B fs z H ws us vs Q E hg hr e0 hb r hsp => ?_⟩
  have kin : K.In z.heap := e0.mod.kin.keeps fun b o e => (e0.bs b o e).1
  have nl : z.heap.NoLimit := e0.mod.nolimit.keeps fun b o e => (e0.bs b o e).1
  have kinds : ∀ y ∈ ps.zip us, (defScope st).names.lookup y.1 = some .local ∨ ((defScope st).names.lookup y.1 = some .cell ∧ ((cellsFrom (z.heap.objs.size + 1) (defScope st).names []).lookup y.1).isSome = true) := by
    intro y hy
    rcases S.par y.1 (List.of_mem_zip hy).1 with q | q
    · exact .inl q
    · exact .inr ⟨q, PySem.W.cellsFrom_some _ _ _ (.inl q)⟩
  refine codeAny_call_function hr.depth (kin _ _ lk) rfl S.co S.gen rfl (PySem.W.codeRec_of kin hc) (hb _ _ _ _ (wpAny_newFunctionEnv_cells S.kind kinds fun env he z1 y => ?_))
  subst he
  obtain ⟨t, ht, hq⟩ := go c B fs z H vs Q E hg (hr.deeper _) hsp
  have I := inv_start (E := E) (CX := CX0) S hr.hd e0 (many _ _ _ _ hsp) r y
  refine ⟨nl.keeps y.toInCall.keep, codeAny_func (wpAny_mono (ht.nox.run [] z1 (start N vs) H _ I hq) (fun fl z2 hz => ?_) fun _ _ hz => hz)⟩
  cases fl with
  | next =>
    obtain ⟨σ2, H2, J, q⟩ := hz
    exact ⟨.non, H2, J.os, J.bare, J.base, J.hok, rfl, q⟩
  | ret u =>
    obtain ⟨v, σ2, H2, J, rv, q⟩ := hz
    exact ⟨v, H2, J.os, J.bare, J.base, J.hok, rv, q⟩
  | brk => exact hz.choose_spec.choose_spec.2.elim
  | cont => exact hz.choose_spec.choose_spec.2.elim
end
section
variable {X : Cx} {k : Nat} {x : Str} {ps : List Str} {sp : L2.Sp} {e : Expr} {es : List Expr} {t : TA} {p pos : Pos}
theorem pe_ownG (c : CalG X.prog X.w X.K X.mg X.base k x ps sp) (hu : X.A.guards = some []) (hr : Room k X.A) (hg : Gl X x) (ha : PA X (e :: es) t) (hdb : (x == ("__debug__" : Str)) = false := by decide)
    (he : starEach (e :: es) X.env = (false, eval e X.env) :: starEach es X.env := by rfl) (hpl : (backTo pos (starEach es X.env)).any (·.1) = false := by rfl) : PE X (.Call (.Name x p) (e :: es) [] pos) (tCall sp [] E0 t) := by
  obtain ⟨f, fd, F, m, kp, b⟩ := c.ex
  refine ⟨fun pins z σ H Q I h => ?_⟩
  refine wpAny_Call_Name_kw (ld_glob I hg m (PySem.W.callWith_K (h₀ := X.base) I.ok.mod.kin kp (thn (ha.run pos pins z σ H _ I h) fun us z1 ⟨vs, H1, J, r, q⟩ => ⟨J.kIn, ?_⟩) he hpl) hdb)
  have q0 : sp vs H1 Q E0 := by
    have q1 : sp (vs ++ []) H1 Q E0 := q
    rwa [List.append_nil] at q1
  have eq : us ++ [] = us := List.append_nil us
  have hb := b z1 us J.kIn (by rw [eq, ← r.length]; exact F.many _ _ _ _ q0)
  rw [eq] at hb
  refine wpAny_call (codeAny_mono (F.goes X.A X.stack z1 H1 ⟨us, []⟩ us vs Q E0 hu hr J.env0 hb r q0) fun res z2 hz => ?_)
  cases res with
  | error ex => exact pass0 pins σ H1 z1 ex z2 J hz
  | ok fl =>
    cases fl with
    | ret u => exact J.after hz
    | next => exact hz.elim
    | brk => exact hz.elim
    | cont => exact hz.elim
/-- repr of a list or a tuple of data -/
def rRepr (K : PySem.W.Frag) : List V → Hp → VK → Prop := fun xs H Q => ∃ (a : Addr) (d : PyData), xs = [.ref a] ∧ Dp K H (.ref a) d ∧ d.showable = true ∧ d.hasDict = false ∧ d.shown.length ≤ sizeLine ∧ d.depth ≤ 60 ∧ Q (.str d.shown) H
theorem call_repr (hu : X.A.guards = some []) (hr : Room k X.A) : CallR X (.builtin "repr") (rRepr X.K) := by
  intro pins z σ H xs us Q I r h
  obtain ⟨a, d, rfl, hd, h1, h2, h3, h4, q⟩ := h
  cases r with
  | cons ra rr =>
    cases rr
    obtain ⟨as, R⟩ := Dp.reads I d _ _ hd ra
    cases ra
    have := hr.units
    exact repr_of_reads' R h1 (PyData.noDict_hsm h2) hu (by omega) (fun _ _ e => e) (fun h' u tk hk => ⟨.str d.shown, H, I.kept (t' := tk) hk, ⟨u, rfl⟩, q⟩) h3
end
theorem show_ints : ∀ ns : List Int, (∀ n ∈ ns, n.natAbs.log2 < 60) → PyData.showableAll (ns.map PyData.int) = true ∧ PyData.leavesShortAll 61 (ns.map PyData.int) = true ∧ PyData.weightAll (ns.map PyData.int) ≤ 61 * ns.length
  | [], _ => ⟨rfl, rfl, Nat.zero_le _⟩
  | n :: ns, h => by
    obtain ⟨h1, h2, h3⟩ := show_ints ns fun m hm => h m (List.mem_cons_of_mem _ hm)
    have h0 := h n List.mem_cons_self
    refine ⟨?_, ?_, ?_⟩
    · rw [List.map_cons, PyData.showableAll, h1, PyData.showable, decide_eq_true (by omega)]
      rfl
    · rw [List.map_cons, PyData.leavesShortAll, h2, PyData.leavesShort]
      have e : (PyData.shown (.int n)).length ≤ 61 := by
        show (Str.ofString (toString n)).length ≤ 61
        rw [PySem.ofString_length]
        exact int_text_length_le (k := 60) (by decide) h0
      rw [decide_eq_true e]
      rfl
    · rw [List.map_cons, PyData.weightAll, PyData.weight, List.length_cons]
      split <;> omega
theorem log_small {n : Int} (h1 : -1000000000000000 ≤ n) (h2 : n ≤ 1000000000000000) : n.natAbs.log2 < 60 := by
  by_cases h0 : n.natAbs = 0
  · rw [h0]; decide
  · exact (Nat.log2_lt h0).mpr (by omega)
theorem shown_ints {ns : List Int} (hl : ns.length ≤ 1000) (h : ∀ n ∈ ns, n.natAbs.log2 < 60) : (di ns).showable = true ∧ (di ns).hasDict = false ∧ (di ns).shown.length ≤ sizeLine ∧ (di ns).depth ≤ 60 := by
  obtain ⟨h1, h2, h3⟩ := show_ints ns h
  refine ⟨?_, ?_, ?_, ?_⟩
  · rw [PyData.showable]; exact h1
  · exact PyData.hasDict_of_canLay _ (by rw [PyData.canLay0]; exact lay_ints ns)
  · have := PyData.shown_le 61 (by decide) (di ns) (by rw [PyData.leavesShort]; exact h2)
    rw [PyData.weight] at this
    have e : sizeLine = 16777216 := by decide
    omega
  · rw [PyData.depth, dep_ints]; decide
theorem repr_ints {K : PySem.W.Frag} {p : Addr} {ns : List Int} {H : Hp} {Q : VK} (h : SqL K H p (ns.map V.int)) (hl : ns.length ≤ 1000) (hb : ∀ n ∈ ns, n.natAbs.log2 < 60) (q : Q (.str (di ns).shown) H) : rRepr K [.ref p] H Q := by
  obtain ⟨h1, h2, h3, h4⟩ := shown_ints hl hb
  exact ⟨p, di ns, rfl, dp_ints h, h1, h2, h3, h4, q⟩
section
variable {P : Program} {w : World} {K : PySem.W.Frag} {mg mb : Str → Option Value} {k : Nat} {fa a : Addr} {fd : FuncData} {x : Str} {sp : L2.Sp} {z : Shared} {us : List Value} {ns : List Int}
/-- the outcome that a law wants of its call -/
def Held (z : Shared) : Result → Shared → Prop := fun r z2 => r = .ok (.ret (.bool true)) ∧ OldK z.heap z2.heap ∧ z2.os = z.os ∧ AllBare z2.gens
/-- from the heap in which u alone is tracked, at the script's place (or nothing) -/
theorem held_of {u : Option HO} (hu : ∀ v, u = some v → K.lookup a = none ∧ v = .frz { cls := .type "list", data := .seq us.toArray } (.lst (ns.map V.int)))
    (kin : K.In z.heap) (g : z.heap.Ns mainGlobals mg) (bn : z.heap.Ns builtinsNs mb) (bt : ∀ x : Str, x ≠ "__name__" → mb x = bootBuiltins x) (nl : z.heap.NoLimit) (gs : z.gens = #[])
    (at_ : z.heap.get? a = some { cls := .type "list", data := .seq us.toArray }) (rv : Vals (ns.map V.int) us) (len : ns.length ≤ sizeLine) (hr : Room k callerA)
    (F : ∀ base : Heap, K.In base → base.Ns mainGlobals mg → FnG P w K mg base k fa fd [x] sp) (bd : ∀ (s : Shared) (v : Value), BindsTo s fd ⟨[v], []⟩ [(x, v)])
    (hs : SqL K (fun b => if b = a then u else none) a (ns.map V.int)) (want : ∀ H : Hp, SqL K H a (ns.map V.int) → sp [.ref a] H (fun v _ => v = .bl true) fun _ _ _ => False) :
    codeAny (model P w) callerA (.call (.ref fa) ⟨[.ref a], []⟩) (Held z) z := by
  generalize hT : (fun b => if b = a then u else none : Hp) = T at hs
  have only : ∀ {b : Addr} {v : HO}, T b = some v → b = a ∧ u = some v := fun {b v} e => by
    rw [← hT] at e
    by_cases n : b = a
    · exact ⟨n, (if_pos n).symm.trans e⟩
    · exact absurd ((if_neg n).symm.trans e) (fun z => nomatch z)
  have off : ∀ {b : Addr} {o : Obj}, z.heap.get? b = some o → (∀ es, o.data ≠ .seq us.toArray es) → T b = none := fun {b o} e d => by
    cases q : T b with
    | none => rfl
    | some v =>
      obtain ⟨rfl, _⟩ := only q
      rw [at_] at e
      exact absurd (congrArg Obj.data (Option.some.inj e)).symm (d _)
  have names : ∀ {b : Addr} {m : Str → Option Value}, z.heap.Ns b m → (hidT z.heap T).Ns b m := fun {b m} n => by
    obtain ⟨o, es, ep, e, d, r⟩ := n
    exact ⟨o, es, ep, hidT_get e (off e fun es' q => by rw [d] at q; cases q), d, r⟩
  have kin2 : K.In (hidT z.heap T) := fun b o e => hidT_get (kin b o e) (by
    cases q : T b with
    | none => rfl
    | some v =>
      obtain ⟨rfl, q2⟩ := only q
      rw [(hu v q2).1] at e
      cases e)
  have ok : HOk P w T z.heap := fun b v e => by
    obtain ⟨rfl, q2⟩ := only e
    obtain ⟨_, rfl⟩ := hu v q2
    exact ⟨at_, by rw [List.length_map]; exact len, us, _, rv, at_⟩
  obtain ⟨mc, c1, c2⟩ := nl
  have e0 : Env0 P w K mg (hidT z.heap T) callerA [] z T := ⟨rfl, ⟨kin2, names g, ⟨mb, names bn, bt⟩, ⟨mc, names c1, c2⟩⟩, fun b o e => of_hidT e, Nat.le_of_eq (hidT_size _ _), trivial, (fun b hb => nomatch hb), ok, .of_eq gs⟩
  refine codeAny_mono ((F _ kin2 (names g)).goes callerA [] z T ⟨[.ref a], []⟩ [.ref a] [.ref a] _ _ rfl hr e0 (bd z (.ref a)) (.cons rfl .nil) (want T hs)) fun res z2 hz => ?_
  match res, hz with
  | .error e, hz => exact hz.elim
  | .ok .next, hz => exact hz.elim
  | .ok .brk, hz => exact hz.elim
  | .ok .cont, hz => exact hz.elim
  | .ok (.ret v), hz =>
    obtain ⟨y, T2, os, bare, un, ok2, ry, q⟩ := hz
    have q' : y = .bl true := q
    subst q'
    obtain rfl : v = Value.bool true := ry
    refine ⟨rfl, OldK.of_keep fun b o e => ?_, os, bare⟩
    cases q2 : T b with
    | none => exact un.keep b o e q2 (fun y => nomatch y) (fun y => nomatch y)
    | some v2 =>
      obtain ⟨rfl, q3⟩ := only q2
      obtain ⟨_, rfl⟩ := hu v2 q3
      rw [at_] at e
      cases e
      exact (ok2 b _ (un.frzs b _ _ q2)).1
end
/-- the head of a law whose def asks repr -/
theorem walkG {l : PySem.W.OpenLaw} {n k : Nat} {q : Program} {loose : List Str} {XP : (Str → Option Value) → Heap → Prop} {YP : World → Heap → Prop} {d : DefRec} {K : Params → PySem.W.Frag} {sp : PySem.W.Frag → L2.Sp} {x : Str} (most : l.most = some n) (le : n ≤ sizeLine)
    (nod : d.params.defaults = []) (hr : Room k callerA) (part : ∀ (w : World) (h : Heap), YP w h → (K w.params).In h)
    (F : ∀ (w : World) (mg : Str → Option Value) (fa : Addr) (h : Heap), (K w.params).In h → h.Ns mainGlobals mg → mg d.name = some (.ref fa) →
      ∃ fd : FuncData, (∀ (s : Shared) (v : Value), BindsTo s fd ⟨[v], []⟩ [(x, v)]) ∧ ∀ base : Heap, (K w.params).In base → base.Ns mainGlobals mg → FnG l.prog w (K w.params) mg base k fa fd [x] (sp (K w.params)))
    (want : ∀ (K : PySem.W.Frag) (H : Hp) (a : Addr) (ns : List Int), ns.length ≤ n → SqL K H a (ns.map V.int) → sp K [.ref a] H (fun v _ => v = .bl true) fun _ _ _ => False) :
    PySem.W.WalkO q loose XP YP l.row.toRowW d [] (fun f vs => PySem.call f vs) := by
  refine Att.attach_call most nod fun w s0 z mg mb fa o pm cd doc a us ns G Y ho hd hcd hmg at_ hi hl gs => ?_
  have kin := part w _ Y
  obtain ⟨fd, bd, FF⟩ := F w mg fa _ kin G.T.g hmg
  have rv := vals_ints hi
  have len : ns.length ≤ sizeLine := Nat.le_trans hl le
  cases hk : (K w.params).lookup a with
  | some o2 =>
    have e := kin a o2 hk
    rw [at_] at e
    cases e
    refine held_of (u := none) (fun _ e => nomatch e) kin G.T.g G.T.b G.T.builtins G.T.nolimit gs at_ rv len hr FF bd (.inr ⟨_, us.toArray, _, hk, rfl, rfl, rfl, ?_, by simpa using rv⟩) fun H h => want _ H a ns hl h
    rw [List.size_toArray, hi.length]
    exact len
  | none =>
    exact held_of (u := some (.frz { cls := .type "list", data := .seq us.toArray } (.lst (ns.map V.int)))) (fun v e => ⟨hk, (Option.some.inj e).symm⟩) kin G.T.g G.T.b G.T.builtins G.T.nolimit gs at_ rv len hr FF bd (.inl (.inr ⟨_, if_pos rfl⟩)) fun H h => want _ H a ns hl h
end Gd
namespace Sp
open PySem L2
/-! ### rows joined -/
def spDue2 (K : PySem.W.Frag) : L2.Sp := fun vs H Q _ => ∃ (p q : Addr) (ns ms : List Int), vs = [.ref p, .ref q] ∧ SqL K H p (ns.map V.int) ∧ SqL K H q (ms.map V.int) ∧ ns.length ≤ 1000 ∧ ms.length ≤ 1000 ∧ ns.Pairwise (· ≤ ·) ∧ ms.Pairwise (· ≤ ·) ∧
  ∀ (r : Addr) (js : List Int) (H' : Hp), Same H H' → H r = none → H' r = some (.lst (js.map V.int)) → js.Perm (ns ++ ms) → js.Pairwise (· ≤ ·) → Q (.ref r) H'
def spSame2 (K : PySem.W.Frag) : L2.Sp := fun vs H Q _ => ∃ (p q : Addr) (ns : List Int), vs = [.ref p, .ref q] ∧ SqL K H p (ns.map V.int) ∧ SqL K H q (ns.map V.int) ∧ ns.length ≤ 1000 ∧ (∀ n ∈ ns, n.natAbs.log2 < 60) ∧ Q (.bl true) H
/-- two lists that are emptied from behind into a third -/
structure Left (H0 H : Hp) (p q l f : Addr) (as bs fs : List Int) : Prop where
  same : Same H0 H
  hp : H p = some (.lst (as.map V.int))
  hq : H q = some (.lst (bs.map V.int))
  hl : H l = some (.lst [.ref p, .ref q])
  hf : H f = some (.lst (fs.map V.int))
structure Off4 (H0 : Hp) (p q l f : Addr) : Prop where
  np : H0 p = none
  nq : H0 q = none
  nf : H0 f = none
  pq : p ≠ q
  pl : p ≠ l
  pf : p ≠ f
  ql : q ≠ l
  qf : q ≠ f
  lf : l ≠ f
theorem Left.up {H0 H H' : Hp} {p q l f : Addr} {as bs fs : List Int} (a : Left H0 H p q l f as bs fs) (s : Same H H') : Left H0 H' p q l f as bs fs := ⟨a.same.trans s, s _ _ a.hp, s _ _ a.hq, s _ _ a.hl, s _ _ a.hf⟩
theorem same_set {H0 H : Hp} {p : Addr} {o : HO} (n : H0 p = none) (s : Same H0 H) : Same H0 (upd H p o) := fun c x e => by
  rw [upd_ne (ne_of_none e n)]
  exact s c x e
theorem Left.popP {H0 H : Hp} {p q l f : Addr} {as bs fs : List Int} (a : Left H0 H p q l f as bs fs) (d : Off4 H0 p q l f) : Left H0 (upd H p (.lst (as.map V.int).dropLast)) p q l f as.dropLast bs fs :=
  ⟨same_set d.np a.same, by rw [upd_same, List.map_dropLast], by rw [upd_ne d.pq.symm]; exact a.hq, by rw [upd_ne d.pl.symm]; exact a.hl, by rw [upd_ne d.pf.symm]; exact a.hf⟩
theorem Left.popQ {H0 H : Hp} {p q l f : Addr} {as bs fs : List Int} (a : Left H0 H p q l f as bs fs) (d : Off4 H0 p q l f) : Left H0 (upd H q (.lst (bs.map V.int).dropLast)) p q l f as bs.dropLast fs :=
  ⟨same_set d.nq a.same, by rw [upd_ne d.pq]; exact a.hp, by rw [upd_same, List.map_dropLast], by rw [upd_ne d.ql.symm]; exact a.hl, by rw [upd_ne d.qf.symm]; exact a.hf⟩
theorem Left.put {H0 H : Hp} {p q l f : Addr} {as bs fs : List Int} (a : Left H0 H p q l f as bs fs) (d : Off4 H0 p q l f) (y : Int) : Left H0 (upd H f (.lst (fs.map V.int ++ [V.int y]))) p q l f as bs (fs ++ [y]) :=
  ⟨same_set d.nf a.same, by rw [upd_ne d.pf]; exact a.hp, by rw [upd_ne d.qf]; exact a.hq, by rw [upd_ne d.lf]; exact a.hl, by rw [upd_same, map_app1]⟩
/-- what is emptied so far: sorted from behind, none of it lesser than what is left -/
structure Merge (ns ms as bs fs : List Int) : Prop where
  pm : (as ++ bs ++ fs).Perm (ns ++ ms)
  sa : as.Pairwise (· ≤ ·)
  sb : bs.Pairwise (· ≤ ·)
  sf : fs.Pairwise (fun x y => y ≤ x)
  la : ∀ x ∈ as, ∀ y ∈ fs, x ≤ y
  lb : ∀ x ∈ bs, ∀ y ∈ fs, x ≤ y
theorem snoc_of {as : List Int} {y : Int} (h : as[as.length - 1]? = some y) : as = as.dropLast ++ [y] := by
  have hl := (List.getElem?_eq_some_iff.mp h).1
  have hn : as ≠ [] := by intro z; rw [z] at hl; simp at hl
  have e := (List.getElem?_eq_some_iff.mp h).2
  rw [← List.getLast_eq_getElem hn] at e
  rw [← e]
  exact (List.dropLast_concat_getLast hn).symm
theorem below_last {as : List Int} {y : Int} (s : as.Pairwise (· ≤ ·)) (h : as[as.length - 1]? = some y) : ∀ x ∈ as, x ≤ y := by
  rw [snoc_of h] at s ⊢
  intro x hx
  rcases List.mem_append.mp hx with z | z
  · exact (List.pairwise_append.mp s).2.2 x z y (List.mem_singleton.mpr rfl)
  · rw [List.mem_singleton.mp z]
    exact Int.le_refl _
theorem Merge.popA {ns ms as bs fs : List Int} {y : Int} (m : Merge ns ms as bs fs) (h : as[as.length - 1]? = some y) (hb : ∀ x ∈ bs, x ≤ y) : Merge ns ms as.dropLast bs (fs ++ [y]) := by
  have e := snoc_of h
  have ya : y ∈ as := by rw [e]; simp
  have sub : ∀ x ∈ as.dropLast, x ∈ as := fun x hx => List.dropLast_subset as hx
  refine ⟨?_, m.sa.sublist (List.dropLast_sublist as), m.sb, List.pairwise_append.mpr ⟨m.sf, List.pairwise_singleton _ _, fun z hz w hw => ?_⟩, fun x hx z hz => ?_, fun x hx z hz => ?_⟩
  · refine List.Perm.trans ?_ m.pm
    refine (List.perm_iff_count).mpr fun z => ?_
    have c : List.count z as = List.count z as.dropLast + List.count z [y] := by rw [← List.count_append, ← e]
    simp only [List.count_append]
    omega
  · rw [List.mem_singleton.mp hw]; exact m.la y ya z hz
  · rcases List.mem_append.mp hz with k | k
    · exact m.la x (sub x hx) z k
    · rw [List.mem_singleton.mp k]; exact below_last m.sa h x (sub x hx)
  · rcases List.mem_append.mp hz with k | k
    · exact m.lb x hx z k
    · rw [List.mem_singleton.mp k]; exact hb x hx
theorem Merge.popB {ns ms as bs fs : List Int} {y : Int} (m : Merge ns ms as bs fs) (h : bs[bs.length - 1]? = some y) (ha : ∀ x ∈ as, x ≤ y) : Merge ns ms as bs.dropLast (fs ++ [y]) := by
  have e := snoc_of h
  have yb : y ∈ bs := by rw [e]; simp
  have sub : ∀ x ∈ bs.dropLast, x ∈ bs := fun x hx => List.dropLast_subset bs hx
  refine ⟨?_, m.sa, m.sb.sublist (List.dropLast_sublist bs), List.pairwise_append.mpr ⟨m.sf, List.pairwise_singleton _ _, fun z hz w hw => ?_⟩, fun x hx z hz => ?_, fun x hx z hz => ?_⟩
  · refine List.Perm.trans ?_ m.pm
    refine (List.perm_iff_count).mpr fun z => ?_
    have c : List.count z bs = List.count z bs.dropLast + List.count z [y] := by rw [← List.count_append, ← e]
    simp only [List.count_append]
    omega
  · rw [List.mem_singleton.mp hw]; exact m.lb y yb z hz
  · rcases List.mem_append.mp hz with k | k
    · exact m.la x hx z k
    · rw [List.mem_singleton.mp k]; exact ha x hx
  · rcases List.mem_append.mp hz with k | k
    · exact m.lb x (sub x hx) z k
    · rw [List.mem_singleton.mp k]; exact below_last m.sb h x (sub x hx)
theorem Merge.begin {ns ms : List Int} (h1 : ns.Pairwise (· ≤ ·)) (h2 : ms.Pairwise (· ≤ ·)) : Merge ns ms ns ms [] := ⟨by rw [List.append_nil], h1, h2, List.Pairwise.nil, (fun _ _ _ h => nomatch h), (fun _ _ _ h => nomatch h)⟩
theorem Merge.ends {ns ms fs : List Int} (m : Merge ns ms [] [] fs) : fs.reverse.Perm (ns ++ ms) ∧ fs.reverse.Pairwise (· ≤ ·) := ⟨(List.reverse_perm fs).trans m.pm, List.pairwise_reverse.mpr m.sf⟩
theorem last_at {as : List Int} (h : as ≠ []) : ∃ y, as[as.length - 1]? = some y := ⟨_, List.getElem?_eq_getElem (by have := List.length_pos_iff.mpr h; omega)⟩
theorem at_last {as : List Int} {y : Int} (h : as[as.length - 1]? = some y) : atI (as.map V.int) (-1) = some (.int y) := by
  have hl := (List.getElem?_eq_some_iff.mp h).1
  unfold atI
  rw [List.length_map]
  have e : ixN as.length (-1) = some (as.length - 1) := by
    unfold ixN
    rw [if_neg (by omega), if_pos (by omega)]
    congr 1
    omega
  rw [e]
  show (as.map V.int)[as.length - 1]? = _
  rw [List.getElem?_map, h]
  rfl
theorem map_last {as : List Int} {y : Int} (h : as[as.length - 1]? = some y) : (as.map V.int)[(as.map V.int).length - 1]? = some (.int y) := by
  rw [List.length_map, List.getElem?_map, h]
  rfl
/-- two rows in a pair, both new -/
def spTwo2 : L2.Sp := fun vs H Q _ => ∃ (a : Addr) (b : Bool), vs = [.ref a, .bl b] ∧ HandAt H a ∧
  ∀ (t p q : Addr) (ns ms : List Int) (H' : Hp), Ext a H H' → H' t = some (.tup [.ref p, .ref q]) → t ≠ a → RowAt H' a p ns → RowAt H' a q ms → H p = none → H q = none → Q (.ref t) H'
/-- all stays but what stands at l -/
def Kp (l : Addr) (H H' : Hp) : Prop := ∀ b o, H b = some o → b ≠ l → H' b = some o
theorem Kp.refl {l : Addr} {H : Hp} : Kp l H H := fun _ _ h _ => h
theorem Kp.trans {l : Addr} {H H1 H2 : Hp} (a : Kp l H H1) (b : Kp l H1 H2) : Kp l H H2 := fun c o h n => b c o (a c o h n) n
theorem Kp.same {l : Addr} {H H' : Hp} (s : Same H H') : Kp l H H' := fun c o h _ => s c o h
theorem Kp.set {l : Addr} {H : Hp} {o : HO} : Kp l H (upd H l o) := fun c x h n => by rw [upd_ne n]; exact h
theorem Kp.made {l : Addr} {H H1 H2 : Hp} (s : Same H H1) (k : Kp l H1 H2) (n : H l = none) : Same H H2 := fun c o h => k c o (s c o h) (ne_of_none h n)
/-- both lists of a pair of lists are alike -/
def Ent (H : Hp) (l e : Addr) : Prop := ∃ (u v : Addr) (js : List Int), e ≠ l ∧ u ≠ l ∧ v ≠ l ∧ H e = some (.lst [.ref u, .ref v]) ∧ H u = some (.lst (js.map V.int)) ∧ H v = some (.lst (js.map V.int)) ∧ js.length ≤ 1000 ∧ ∀ n ∈ js, n.natAbs.log2 < 60
theorem Ent.up {H H' : Hp} {l e : Addr} (k : Kp l H H') (x : Ent H l e) : Ent H' l e := by
  obtain ⟨u, v, js, n1, n2, n3, e1, e2, e3, r⟩ := x
  exact ⟨u, v, js, n1, n2, n3, k _ _ e1 n1, k _ _ e2 n2, k _ _ e3 n3, r⟩
/-- within a comprehension: the written part by its own name -/
theorem ix_listK {X : Cx} {K : PySem.W.Frag} (hK : X.K = K) : IxR X (rIxL K) := hK ▸ ix_list
end Sp

/-! a lambda of one name, handed to a def as its fourth argument. -/
namespace Lm
open PySem PySem.Spec PyProof.Rows L2 LamX NdefX
/-- a lambda's words, as a function of the layer; its body is told apart -/
abbrev lamF (qual : Str) (params : Arguments) (scope : Scope) (cl : List (Str × Addr)) (c : Addr) : NF := ⟨"<lambda>", qual, params, [], scope, cl, c⟩
section
variable {P : Program} {w : World} {K : PySem.W.Frag} {mg : Str → Option Value} {base : Heap} {N fr : List Str} {F : NF} {y : Str} {body : Expr} {f : Addr} {pm ctv u : Value} {A : Around} {outer : List Env} {s : Shared} {H : Hp} {ws : List (Option V)} {v : V} {tb : TE} {Q : VK} {k : Nat}
/-- it runs -/
theorem run_lam (S : NScope N [y] fr F.scope) (hb : bindArgs (PySem.W.kla_fn "<lambda>" F.qual F.params body F.scope F.cl pm (.ref F.c) ctv) ⟨[u], []⟩ = pure [(y, u)]) (room : Room (k + 1) A) (e0 : Env0 P w K mg base A outer s H)
    (at_ : s.heap.get? f = some (PySem.W.kla_obj "<lambda>" F.qual F.params body F.scope F.cl pm F.c ctv)) (cd : H F.c = some (CodeO F.c F.qual)) (C : CellsAt F.cl fr ws s.heap H) (rv : RelV v u)
    (go : Room k (A.deeper (envF F f s.heap.objs.size)) → PE (ncx L2.CX0 P w K mg base N F f A outer s H L2.E0) body tb) (q : tb (startF N [v] ws) H Q) :
    codeAny (model P w) A (.call (.ref f) ⟨[u], []⟩) (CR L2.CX0 outer P w H s Q L2.E0) s := by
  have nl : s.heap.NoLimit := e0.mod.nolimit.keeps fun b o e => (e0.bs b o e).1
  refine PySem.W.kla_callFunE room.depth at_ rfl S.co S.gen rfl (codeO_at e0.hok cd) ?_
  rw [hb]
  refine wpAny_pure (wpAny_newFunctionEnv (fun z hz => S.nocell z hz) (fun z hz => ?_) (fun h1 hn hs => ⟨nl.fresh _ hs, ?_⟩) S.kind)
  · obtain rfl : z = (y, u) := List.mem_singleton.mp hz
    exact S.par y (List.mem_singleton.mpr rfl)
  have keep : ∀ b o, s.heap.get? b = some o → h1.get? b = some o := fun b o e => hs.extBut b o (Nat.ne_of_lt (Heap.lt_size e)) (Heap.get?_push_of_some _ e)
  have J := inv_startN (E := L2.E0) (CX := L2.CX0) (f := f) (tk := s.toks + [(y, u)].length) S room.hd e0 (vs := [v]) (us := [u]) rfl (.cons rv .nil) C hn keep
  refine PySem.W.kla_codeExpr (wpAny_mono ((go (room.deeper _)).run [] _ _ H Q J q) (fun a z hz => ?_) fun _ _ hz => hz)
  obtain ⟨a', H2, J2, ra, q2⟩ := hz
  exact ⟨a', H2, J2.os, J2.bare, J2.base, J2.hok, ra, q2⟩
end
section
variable {X : Cx} {pins : List (Addr × Obj)} {σ : L2.St} {H : Hp} {s : Shared}
/-- what captured cells hold stays, whatever the running def's callers' frames are -/
theorem later {cl : List (Str × Addr)} {fr : List Str} {ws : List (Option V)} (C : CellsAt cl fr ws X.s_0.heap X.H_0) (hx : ∀ y c, cl.lookup y = some c → c ∉ X.ex) (I : Inv X pins σ H s) : CellsAt cl fr ws s.heap H := by
  have stay : ∀ y c, cl.lookup y = some c → ∀ v, X.s_0.heap.IsCell c v → s.heap.IsCell c v := fun y c e v z => by
    obtain ⟨o, ho, hd⟩ := z
    obtain ⟨sl, q⟩ := I.base.any ho (C.all y c e).1 (hx y c e)
    exact ⟨_, q, hd⟩
  refine ⟨C.len, fun y c e => ?_, C.inj, fun i y e => ?_⟩
  · obtain ⟨n, v, z⟩ := C.all y c e
    obtain ⟨o, ho, hd⟩ := id z
    exact ⟨I.base.free c o ho n (hx y c e), v, stay y c e v z⟩
  · obtain ⟨c, hc, hv⟩ := C.has i y e
    refine ⟨c, hc, fun v ev => ?_⟩
    obtain ⟨u, r, z⟩ := hv v ev
    exact ⟨u, r, stay y c hc _ z⟩
/-- a(e), in the def that got the lambda as its name a: Z is that def's context, entered at s -/
theorem pe_act {Ng N fr : List Str} {qg : Str} {sg : Scope} {g f : Addr} {cdg pm ctv : Value} {F : NF} {y a : Str} {body e : Expr} {ws : List (Option V)} {k i : Nat} {te tb : TE} {p1 p2 : Pos} (S : NScope N [y] fr F.scope)
    (hb : ∀ (pm ctv u : Value), bindArgs (PySem.W.kla_fn "<lambda>" F.qual F.params body F.scope F.cl pm (.ref F.c) ctv) ⟨[u], []⟩ = pure [(y, u)]) (at_ : s.heap.get? f = some (PySem.W.kla_obj "<lambda>" F.qual F.params body F.scope F.cl pm F.c ctv)) (off : H f = none) (nfr : f ∉ frs X.stack)
    (C : CellsAt F.cl fr ws s.heap H) (room : Room (k + 1) (X.A.deeper (envOfC qg sg s.heap.objs.size g cdg)))
    (go : ∀ (A : Around) (outer : List Env) (s : Shared) (H : Hp), Room k (A.deeper (envF F f s.heap.objs.size)) → PE (ncx L2.CX0 X.prog X.w X.K X.mg X.base N F f A outer s H L2.E0) body tb)
    (he : PE (cxOf L2.CX0 X.prog X.w X.K X.mg X.base Ng qg sg g cdg X.A X.stack s H L2.E0).nox e te) (hN : Ng[i]? = some a) (hv : Vis sg a) (h1 : (a == ("__debug__" : Str)) = false := by decide) (h2 : (a == ("__classdict__" : Str)) = false := by decide)
    (hs : starEach [e] (cxOf L2.CX0 X.prog X.w X.K X.mg X.base Ng qg sg g cdg X.A X.stack s H L2.E0).nox.env = (false, eval e (cxOf L2.CX0 X.prog X.w X.K X.mg X.base Ng qg sg g cdg X.A X.stack s H L2.E0).nox.env) :: starEach [] (cxOf L2.CX0 X.prog X.w X.K X.mg X.base Ng qg sg g cdg X.A X.stack s H L2.E0).nox.env := by rfl) :
    PE (cxOf L2.CX0 X.prog X.w X.K X.mg X.base Ng qg sg g cdg X.A X.stack s H L2.E0).nox (.Call (.Name a p1) [e] [] p2)
      (fun σZ HZ Q => σZ[i]? = some (some (.ref f)) ∧ te σZ HZ fun v H2 => H2 F.c = some (CodeO F.c F.qual) ∧ tb (startF N [v] ws) H2 Q) := by
  refine ⟨fun pz z σZ HZ Q J h => ?_⟩
  obtain ⟨slot, h⟩ := h
  refine wpAny_Call_Name_kw (thn ((pe_var (pos := p1) (i := i) hN hv h1 h2).run pz z σZ HZ (fun v H1 => v = .ref f ∧ H1 = HZ) J ⟨.ref f, slot, rfl, rfl⟩) fun u z1 ⟨v, H1, J1, r1, q1⟩ => ?_)
  obtain ⟨rfl, rfl⟩ := q1
  obtain rfl : u = Value.ref f := r1
  have stays : ∀ {pz : List (Addr × Obj)} {σ2 : L2.St} {H2 : Hp} {z2 : Shared}, Inv (cxOf L2.CX0 X.prog X.w X.K X.mg X.base Ng qg sg g cdg X.A X.stack s H L2.E0).nox pz σ2 H2 z2 → z2.heap.get? f = some (PySem.W.kla_obj "<lambda>" F.qual F.params body F.scope F.cl pm F.c ctv) :=
    fun J2 => J2.base.keep f _ at_ off nfr (fun z => nomatch (show f ∈ ([] : List Addr) from z))
  refine PySem.W.callWith_F (first := []) ⟨_, _, _, _, stays J1⟩ (thn ((pa_cons he pa_nil hs).run p2 pz z1 σZ H1 (fun vs H2 => match vs with | [v] => H2 F.c = some (CodeO F.c F.qual) ∧ tb (startF N [v] ws) H2 Q | _ => False) J1 h) fun us z2 ⟨vs, H2, J2, r, hq⟩ => ⟨⟨_, _, _, _, stays J2⟩, ?_⟩) hs (by rfl)
  match r, hq with
  | .cons ra .nil, hq =>
    obtain ⟨hc, hq⟩ := hq
    have C2 : CellsAt F.cl fr ws z2.heap H2 := later (X := (cxOf L2.CX0 X.prog X.w X.K X.mg X.base Ng qg sg g cdg X.A X.stack s H L2.E0).nox) C (fun _ _ _ z => nomatch (show _ ∈ ([] : List Addr) from z)) J2
    refine wpAny_call (codeAny_mono (run_lam (k := k) S (hb pm ctv _) room J2.env0 (stays J2) hc C2 ra (go _ _ _ _) hq) fun res z3 hz => ?_)
    cases res with
    | error ex => exact hz.elim
    | ok fl =>
      cases fl with
      | ret u => exact J2.after hz
      | next => exact hz.elim
      | brk => exact hz.elim
      | cont => exact hz.elim
/-- what a def does with a reading tl of the function that it gets, told of three values -/
abbrev Tell := (V → Hp → VK → Prop) → V → V → V → Hp → VK → Prop
/-- the def that calls what it got under the name a -/
def Gets (P : Program) (w : World) (K : PySem.W.Frag) (mg : Str → Option Value) (base : Heap) (Ng : List Str) (x : Str) (st : Stmt) (g : Addr) (a : Str) (k : Nat) (TT : Tell) : Prop :=
  ∀ (cdg : Value) (A : Around) (outer : List Env) (s : Shared) (H : Hp) (v1 v2 v3 : V) (f : Addr) (Q : VK) (tl : V → Hp → VK → Prop), Room k (A.deeper (envOfC x (defScope st) s.heap.objs.size g cdg)) →
    (∀ (e : Expr) (te : TE) (p1 p2 : Pos), PE (cxOf L2.CX0 P w K mg base Ng x (defScope st) g cdg A outer s H L2.E0).nox e te →
      starEach [e] (cxOf L2.CX0 P w K mg base Ng x (defScope st) g cdg A outer s H L2.E0).nox.env = (false, eval e (cxOf L2.CX0 P w K mg base Ng x (defScope st) g cdg A outer s H L2.E0).nox.env) :: starEach [] (cxOf L2.CX0 P w K mg base Ng x (defScope st) g cdg A outer s H L2.E0).nox.env →
      PE (cxOf L2.CX0 P w K mg base Ng x (defScope st) g cdg A outer s H L2.E0).nox (.Call (.Name a p1) [e] [] p2) (fun σZ HZ Q => σZ[3]? = some (some (.ref f)) ∧ te σZ HZ fun v H2 => tl v H2 Q)) →
    TT tl v1 v2 v3 H Q →
    ∃ t, PSs (cxOf L2.CX0 P w K mg base Ng x (defScope st) g cdg A outer s H L2.E0).nox (defBody st) t ∧ t { nx := fun _ H2 => Q .non H2, rt := Q } (start Ng [v1, v2, v3, .ref f]) H
def tLam4 (T : List (Addr × Str)) (q : Str) (TT : Tell) (N : List Str) (js : List Nat) (t1 t2 t3 tb : TE) : TE := fun σ H Q => t1 σ H fun v1 H1 => t2 σ H1 fun v2 H2 => t3 σ H2 fun v3 H3 => Tabs T H3 ∧
  ∀ (c : Addr) (H4 : Hp), ExtN H3 H4 → Tabs T H4 → H4 c = some (CodeO c q) → TT (fun v H5 Q2 => H5 c = some (CodeO c q) ∧ tb (startF N [v] (js.map (slotAt σ))) H5 Q2) v1 v2 v3 H4 Q
/-- x(e1, e2, e3, lambda y: body) -/
theorem pe_lam4 {T : List (Addr × Str)} {TT : Tell} {x a y : Str} {g c P : Addr} {k : Nat} {st : Stmt} {fdg : FuncData} {Ng N fr : List Str} {js : List Nat} {ps : List Str} {params : Arguments} {body e1 e2 e3 : Expr} {scope : Scope} {t1 t2 t3 tb : TE} {p lpos pos : Pos}
    (Fg : Fun X.K x x st g fdg) (Sg : FnScope Ng ps (defScope st)) (hm : X.mg x = some (.ref g)) (hgl : Gl X x) (hbg : Binds X.K fdg ps []) (hps : ps.length = 4) (hNg : Ng[3]? = some a) (hva : Vis (defScope st) a)
    (hG : Gets X.prog X.w X.K X.mg X.base Ng x st g a (k + 1) TT)
    (TB : TabB X.base X.mg c P) (hcode : X.env.code = .ref c) (hmT : (P, X.env.qual ++ "<lambda>") ∈ T) (hu : ∀ p ∈ T, p.1 = P → p.2 = X.env.qual ++ "<lambda>") (hr : Room (k + 2) X.A)
    (S : NScope N [y] fr scope) (hfree : ∀ y ∈ scope.names, y.2 = .free → X.env.scope.names.lookup y.1 = some .cell ∨ X.env.scope.names.lookup y.1 = some .free) (hfr : ∀ y ∈ fr, (y, NameKind.free) ∈ scope.names) (hjs : js.map (fun j => X.N[j]?) = fr.map some)
    (hdef : defaultsOf params X.env = ([], [])) (hb : ∀ (q : Str) (cl : List (Str × Addr)) (pm cv ctv u : Value), bindArgs (PySem.W.kla_fn "<lambda>" q params body scope cl pm cv ctv) ⟨[u], []⟩ = pure [(y, u)])
    (go : ∀ (q : Str) (cl : List (Str × Addr)) (c f : Addr) (A : Around) (outer : List Env) (s : Shared) (H : Hp), Room k (A.deeper (envF (lamF q params scope cl c) f s.heap.objs.size)) → PE (ncx L2.CX0 X.prog X.w X.K X.mg X.base N (lamF q params scope cl c) f A outer s H L2.E0) body tb)
    (h1 : PE X e1 t1) (h2 : PE X e2 t2) (h3 : PE X e3 t3)
    (hdb : (x == ("__debug__" : Str)) = false := by decide) (hd : (a == ("__debug__" : Str)) = false := by decide) (hcd : (a == ("__classdict__" : Str)) = false := by decide)
    (z1 : starEach [e1, e2, e3, .Lambda params body scope lpos] X.env = (false, eval e1 X.env) :: starEach [e2, e3, .Lambda params body scope lpos] X.env := by rfl) (z2 : starEach [e2, e3, .Lambda params body scope lpos] X.env = (false, eval e2 X.env) :: starEach [e3, .Lambda params body scope lpos] X.env := by rfl)
    (z3 : starEach [e3, .Lambda params body scope lpos] X.env = (false, eval e3 X.env) :: starEach [.Lambda params body scope lpos] X.env := by rfl) (hpl : (backTo pos (starEach [e2, e3, .Lambda params body scope lpos] X.env)).any (·.1) = false := by rfl) :
    PE X (.Call (.Name x p) [e1, e2, e3, .Lambda params body scope lpos] [] pos) (tLam4 T (X.env.qual ++ "<lambda>") TT N js t1 t2 t3 tb) := by
  refine ⟨fun pins s σ H Q I h => ?_⟩
  refine wpAny_Call_Name_kw (ld_glob I hgl hm ?_ hdb)
  refine PySem.W.callWith_K (h₀ := X.base) I.ok.mod.kin Fg.kp ?_ z1 hpl
  rw [z1]
  show wpAny _ _ (spliced ((false, eval e1 X.env) :: backTo pos (starEach [e2, e3, .Lambda params body scope lpos] X.env))) _ _ s
  refine Calls.spliced_cons (thn (h1.run pins s σ H _ I h) fun u1 s1 ⟨v1, H1, I1, r1, h⟩ => ?_)
  rw [z2]
  show wpAny _ _ (spliced ((false, eval e2 X.env) :: backTo pos (starEach [e3, .Lambda params body scope lpos] X.env))) _ _ s1
  refine Calls.spliced_cons (thn (h2.run pins s1 σ H1 _ I1 h) fun u2 s2 ⟨v2, H2, I2, r2, h⟩ => ?_)
  rw [z3]
  show wpAny _ _ (spliced ((false, eval e3 X.env) :: backTo pos (starEach [.Lambda params body scope lpos] X.env))) _ _ s2
  refine Calls.spliced_cons (thn (h3.run pins s2 σ H2 _ I2 h) fun u3 s3 ⟨v3, H3, I3, r3, hT, h⟩ => ?_)
  show wpAny _ _ (spliced ((false, eval (.Lambda params body scope lpos) X.env) :: backTo pos (starEach [] X.env))) _ _ s3
  have hfree' : ∀ y ∈ scope.names, y.2 = .free → ∃ c, X.env.cells.lookup y.1 = some c := fun y hy e => (hfree y hy e).elim (fun z => I3.ok.has _ (.inl z)) fun z => I3.ok.has _ (.inr z)
  refine Calls.spliced_cons (lam_make2 I3 TB hcode hmT hu hT hdef hfree' fun f c' pm ctv H4 s4 I4 x4 T4 at_ off nfr hc => ?_)
  refine Calls.spliced_nil ⟨I4.kIn, ?_⟩
  have caps := Caps.made (fr := fr) (js := js) I4.ok hfree hfr hjs
  have C := cells_of I4 caps
  obtain ⟨oc, od, kV, doc, pmg, an, cdv, ct, osl, rfl, lk, hcd2⟩ := Fg.ex
  have rc : codeAny (model X.prog X.w) X.A (.call (.ref g) ⟨[u1, u2, u3, .ref f], []⟩) (CR L2.CX0 X.stack X.prog X.w H4 s4 Q L2.E0) s4 := by
    have bd := hbg s4 [u1, u2, u3, .ref f] I4.kIn (by rw [hps]; rfl)
    refine run_ofS (k := k + 1) (N := Ng) (ps := ps) (us := [u1, u2, u3, .ref f]) (vs := [v1, v2, v3, .ref f]) lk hcd2 Sg hr I4.env0 bd (.cons r1 (.cons r2 (.cons r3 (.cons rfl .nil)))) (by rw [hps]; rfl) fun hr' => ?_
    obtain ⟨t', ht', hq'⟩ := hG cdv X.A X.stack s4 H4 v1 v2 v3 f Q (fun v H5 Q2 => H5 c' = some (CodeO c' (X.env.qual ++ "<lambda>")) ∧ tb (startF N [v] (js.map (slotAt σ))) H5 Q2) hr'
      (fun e te p1 p2 he hs => pe_act (F := lamF (X.env.qual ++ "<lambda>") params scope (cloFrom X.env.cells scope.names []) c') (i := 3) S (fun pm ctv u => hb _ _ _ _ _ _) at_ off nfr C hr' (fun A outer s H hr2 => go _ _ _ _ A outer s H hr2) he hNg hva hd hcd hs) (h c' H4 x4 T4 hc)
    exact ⟨t', ht'.nox, hq'⟩
  refine wpAny_call (codeAny_mono rc fun r s2 hq => ?_)
  cases r with
  | error e => exact hq.elim
  | ok fl =>
    cases fl with
    | ret u => exact I4.after hq
    | next => exact hq.elim
    | brk => exact hq.elim
    | cont => exact hq.elim
end
/-- a def of the text whose code object stands at c -/
structure FunC (K : PySem.W.Frag) (x qual : Str) (st : Stmt) (f : Addr) (fd : FuncData) (c : Addr) : Prop where
  ex : ∃ (oc : Value) (od : Option Addr) (kV doc pm : Value) (an : Option Addr) (ct : Value) (osl : Array (Option Value)),
    fd = PySem.W.fnOf x qual (defArgs st) (defBody st) (defScope st) .none kV doc pm an (.ref c) ct ∧ K.lookup f = some ⟨oc, od, .func fd, osl⟩ ∧ PySem.W.codeIn K (.ref c) qual = true
  kp : PySem.W.keepIn K (.ref f) = true
theorem FunC.fun {K : PySem.W.Frag} {x qual : Str} {st : Stmt} {f : Addr} {fd : FuncData} {c : Addr} (F : FunC K x qual st f fd c) : L2.Fun K x qual st f fd := by
  obtain ⟨oc, od, kV, doc, pm, an, ct, osl, e, l, h⟩ := F.ex
  exact ⟨⟨oc, od, kV, doc, pm, an, .ref c, ct, osl, e, l, h⟩, F.kp⟩
theorem func_mk {K : PySem.W.Frag} {x qual : Str} {st : Stmt} {f c : Addr} {oc : Value} {od an : Option Addr} {osl : Array (Option Value)} {kV doc pm ct : Value} (l : K.lookup f = some ⟨oc, od, .func (PySem.W.fnOf x qual (defArgs st) (defBody st) (defScope st) .none kV doc pm an (.ref c) ct), osl⟩)
    (h : PySem.W.codeIn K (.ref c) qual = true) (k : PySem.W.keepIn K (.ref f) = true) : FunC K x qual st f (PySem.W.fnOf x qual (defArgs st) (defBody st) (defScope st) .none kV doc pm an (.ref c) ct) c := ⟨⟨oc, od, kV, doc, pm, an, ct, osl, rfl, l, h⟩, k⟩
theorem FunC.ok {P : Program} {w : World} {K : PySem.W.Frag} {mg : Str → Option Value} {base : Heap} {x qual : Str} {st : Stmt} {f c : Addr} {fd : FuncData} {N ps : List Str} {k : Nat} {sp : L2.Sp} (F : FunC K x qual st f fd c) (S : FnScope N ps (defScope st)) (many : ∀ vs H Q E, sp vs H Q E → vs.length = ps.length)
    (go : ∀ (A : Around) (outer : List Env) (s : Shared) (H : Hp) (vs : List V) (Q : VK) (E : XK), Room k (A.deeper (envOfC qual (defScope st) s.heap.objs.size f (.ref c))) → sp vs H Q E →
      ∃ t, PSs (cxOf L2.CX0 P w K mg base N qual (defScope st) f (.ref c) A outer s H E).nox (defBody st) t ∧ t { nx := fun _ H2 => Q .non H2, rt := Q } (start N vs) H) : FnOk P w K mg base L2.CX0 (k + 1) f fd ps sp := by
  obtain ⟨oc, od, kV, doc, pm, an, ct, osl, rfl, l, h⟩ := F.ex
  exact fn_of l h S many fun A outer s H vs Q E hr q => (go A outer s H vs Q E hr q).imp fun t z => ⟨z.1.nox, z.2⟩
/-- where the table of a def's code object lies -/
theorem tab_at {K : PySem.W.Frag} {x qual : Str} {st : Stmt} {f c P : Addr} {oc e : Value} {od dd an : Option Addr} {osl sl : Array (Option Value)} {kV doc pm ct : Value} {vs : Array Value} (a : PySem.W.nsIn K mainGlobals x = some (some (.ref f)))
    (l : K.lookup f = some ⟨oc, od, .func (PySem.W.fnOf x qual (defArgs st) (defBody st) (defScope st) .none kV doc pm an (.ref c) ct), osl⟩) (lc : K.lookup c = some ⟨e, dd, .fields vs, sl⟩) (h : vs[11]? = some (.ref P)) : PySem.W.tabIn K x = some (c, P) := by
  unfold PySem.W.tabIn
  rw [a]
  dsimp only
  rw [l]
  dsimp only [PySem.W.fnOf]
  rw [lc]
  dsimp only
  rw [h]
/-- the search for a number, halving: what number_at does with the count that it gets -/
def TNum : Tell := fun tl v1 v2 v3 H Q => ∃ (n lo hi : Int) (G : Int → Int), v1 = .int n ∧ v2 = .int lo ∧ v3 = .int hi ∧ (∀ m H1 Q2, Same H H1 → (∀ H2, Same H1 H2 → Q2 (.int (G m)) H2) → tl (.int m) H1 Q2) ∧ lo ≤ hi ∧ G lo ≤ n ∧ n < G (hi + 1) ∧
  ∀ r H1, Same H H1 → lo ≤ r → r ≤ hi → G r ≤ n → n < G (r + 1) → Q (.int r) H1
end Lm

/-! the head of a law some of whose defs make a lambda: tables of code objects are tracked from the start. -/
namespace Gd
open PySem PySem.Spec PyProof.Rows L2 Sp LamX
theorem FnG.of {P : Program} {w : World} {K : PySem.W.Frag} {mg : Str → Option Value} {base : Heap} {k : Nat} {f : Addr} {fd : FuncData} {ps : List Str} {sp : L2.Sp} (F : FnOk P w K mg base CX0 k f fd ps sp) : FnG P w K mg base k f fd ps sp :=
  ⟨F.len, fun B fs z H ws us vs Q E _ hr e0 b r h => F.run B fs z H ws us vs Q E hr e0 b r h⟩
section
variable {P : Program} {w : World} {K : PySem.W.Frag} {mg mb : Str → Option Value} {k : Nat} {fa a : Addr} {fd : FuncData} {x : Str} {sp : L2.Sp} {z : Shared} {us : List Value} {ns : List Int}
/-- tracked: u at the script's place, an empty table at each place of ts -/
def firstH (a : Addr) (u : Option HO) (ts : List Addr) : Hp := fun b => if b = a then u else if b ∈ ts then some (.tbl #[]) else none
/-- the module's own dict is known -/
abbrev MainAt (mg : Str → Option Value) (h : Heap) : Prop := ∃ (bm : Addr) (ob : Obj), mg "__builtins__" = some (.ref bm) ∧ bm ≠ builtinsNs ∧ h.get? bm = some ob ∧ ob.cls = .type "module" ∧ ob.dict = some builtinsNs ∧ ob.data = .plain
theorem held_ofT {cs : List (Addr × Addr)} {u : Option HO} (hu : ∀ v, u = some v → K.lookup a = none ∧ v = .frz { cls := .type "list", data := .seq us.toArray } (.lst (ns.map V.int)))
    (kin : K.In z.heap) (g : z.heap.Ns mainGlobals mg) (bn : z.heap.Ns builtinsNs mb) (bt : ∀ x : Str, x ≠ "__name__" → mb x = bootBuiltins x) (nl : z.heap.NoLimit) (gs : z.gens = #[]) (bm : MainAt mg z.heap)
    (empty : ∀ p ∈ cs, z.heap.get? p.2 = some { cls := .none, data := .fields #[] }) (nK : ∀ p ∈ cs, K.lookup p.2 = none) (code : ∀ p ∈ cs, PySem.W.CodeHd z.heap p.1 p.2)
    (at_ : z.heap.get? a = some { cls := .type "list", data := .seq us.toArray }) (rv : Vals (ns.map V.int) us) (len : ns.length ≤ sizeLine) (hr : Room k callerA)
    (F : ∀ base : Heap, K.In base → base.Ns mainGlobals mg → (∀ p ∈ cs, TabB base mg p.1 p.2) → FnG P w K mg base k fa fd [x] sp) (bd : ∀ (s : Shared) (v : Value), BindsTo s fd ⟨[v], []⟩ [(x, v)])
    (hs : SqL K (firstH a u (cs.map (·.2))) a (ns.map V.int)) (want : ∀ H : Hp, (∀ p ∈ cs, H p.2 = some (.tbl #[])) → SqL K H a (ns.map V.int) → sp [.ref a] H (fun v _ => v = .bl true) fun _ _ _ => False) :
    codeAny (model P w) callerA (.call (.ref fa) ⟨[.ref a], []⟩) (Held z) z := by
  have emp : ∀ b ∈ cs.map (·.2), z.heap.get? b = some { cls := .none, data := .fields #[] } := fun b hb => by
    obtain ⟨p, hp, rfl⟩ := List.mem_map.mp hb
    exact empty p hp
  have na : a ∉ cs.map (·.2) := fun m => by
    have e := emp a m
    rw [at_] at e
    have e2 := congrArg Obj.cls (Option.some.inj e)
    cases e2
  generalize hT : firstH a u (cs.map (·.2)) = T at hs
  have only : ∀ {b : Addr} {v : HO}, T b = some v → (b = a ∧ u = some v) ∨ (b ∈ cs.map (·.2) ∧ v = .tbl #[]) := fun {b v} e => by
    rw [← hT] at e
    unfold firstH at e
    by_cases n : b = a
    · exact .inl ⟨n, (if_pos n).symm.trans e⟩
    · rw [if_neg n] at e
      by_cases m : b ∈ cs.map (·.2)
      · rw [if_pos m] at e
        exact .inr ⟨m, (Option.some.inj e).symm⟩
      · rw [if_neg m] at e
        cases e
  have tabs : ∀ p ∈ cs, T p.2 = some (.tbl #[]) := fun p hp => by
    have m : p.2 ∈ cs.map (·.2) := List.mem_map.mpr ⟨p, hp, rfl⟩
    rw [← hT]
    unfold firstH
    rw [if_neg (show ¬ p.2 = a from fun e => na (by rw [← e]; exact m)), if_pos m]
  have off : ∀ {b : Addr} {o : Obj}, z.heap.get? b = some o → (∀ es, o.data ≠ .seq us.toArray es) → o.data ≠ .fields #[] → T b = none := fun {b o} e d d2 => by
    cases q : T b with
    | none => rfl
    | some v =>
      rcases only q with ⟨rfl, _⟩ | ⟨m, _⟩
      · rw [at_] at e
        exact absurd (congrArg Obj.data (Option.some.inj e)).symm (d _)
      · rw [emp b m] at e
        exact absurd (congrArg Obj.data (Option.some.inj e)).symm d2
  have names : ∀ {b : Addr} {m : Str → Option Value}, z.heap.Ns b m → (hidT z.heap T).Ns b m := fun {b m} n => by
    obtain ⟨o, es, ep, e, d, r⟩ := n
    exact ⟨o, es, ep, hidT_get e (off e (fun es' q => by rw [d] at q; cases q) (fun q => by rw [d] at q; cases q)), d, r⟩
  have kin2 : K.In (hidT z.heap T) := fun b o e => hidT_get (kin b o e) (by
    cases q : T b with
    | none => rfl
    | some v =>
      rcases only q with ⟨rfl, q2⟩ | ⟨m, _⟩
      · rw [(hu v q2).1] at e
        cases e
      · obtain ⟨p, hp, rfl⟩ := List.mem_map.mp m
        rw [nK p hp] at e
        cases e)
  have ok : HOk P w T z.heap := fun b v e => by
    rcases only e with ⟨rfl, q2⟩ | ⟨m, rfl⟩
    · obtain ⟨_, rfl⟩ := hu v q2
      exact ⟨at_, by rw [List.length_map]; exact len, us, _, rv, at_⟩
    · exact emp b m
  have TB : ∀ p ∈ cs, TabB (hidT z.heap T) mg p.1 p.2 := fun p hp => by
    have e0 := empty p hp
    constructor
    · obtain ⟨o, vs, file, tf, flags, tg, inF, text, tt, e1, r1, r2, r3, r⟩ := code p hp
      refine ⟨o, vs, file, tf, flags, tg, inF, text, tt, hidT_get e1 (off e1 (fun es q => ?_) (fun q => ?_)), r1, r2, r3, r⟩
      · rw [r2] at q
        cases q
      · rw [r2] at q
        cases q
        simp at r3
    · obtain ⟨b, ob, b1, b2, b3, b4, b5, b6⟩ := bm
      refine ⟨b, ob, b1, b2, fun q => ?_, fun q => ?_, hidT_get b3 (off b3 (fun es q => ?_) (fun q => ?_)), b4, b5, b6⟩
      · obtain ⟨o, es, ep, e, d, _⟩ := g
        rw [q, e] at b3
        cases b3
        rw [d] at b6
        cases b6
      · rw [q, e0] at b3
        cases b3
        cases b6
      · rw [b6] at q
        cases q
      · rw [b6] at q
        cases q
    · intro q
      obtain ⟨o, es, ep, e, d, _⟩ := g
      rw [q, e0] at e
      cases e
      cases d
  obtain ⟨mc, c1, c2⟩ := nl
  have e0 : Env0 P w K mg (hidT z.heap T) callerA [] z T := ⟨rfl, ⟨kin2, names g, ⟨mb, names bn, bt⟩, ⟨mc, names c1, c2⟩⟩, fun b o e => of_hidT e, Nat.le_of_eq (hidT_size _ _), trivial, (fun b hb => nomatch hb), ok, .of_eq gs⟩
  refine codeAny_mono ((F _ kin2 (names g) TB).goes callerA [] z T ⟨[.ref a], []⟩ [.ref a] [.ref a] _ _ rfl hr e0 (bd z (.ref a)) (.cons rfl .nil) (want T tabs hs)) fun res z2 hz => ?_
  match res, hz with
  | .error e, hz => exact hz.elim
  | .ok .next, hz => exact hz.elim
  | .ok .brk, hz => exact hz.elim
  | .ok .cont, hz => exact hz.elim
  | .ok (.ret v), hz =>
    obtain ⟨y, T2, os, bare, un, ok2, ry, q⟩ := hz
    have q' : y = .bl true := q
    subst q'
    obtain rfl : v = Value.bool true := ry
    have same : ∀ b o, b ∉ cs.map (·.2) → z.heap.get? b = some o → z2.heap.get? b = some o := fun b o nb e => by
      cases q2 : T b with
      | none => exact un.keep b o e q2 (fun y => nomatch y) (fun y => nomatch y)
      | some v2 =>
        rcases only q2 with ⟨rfl, q3⟩ | ⟨m, _⟩
        · obtain ⟨_, rfl⟩ := hu v2 q3
          rw [at_] at e
          cases e
          exact (ok2 b _ (un.frzs b _ _ q2)).1
        · exact absurd m nb
    have more : ∀ p ∈ cs, ∃ m : Array Value, z2.heap.get? p.2 = some { cls := .none, data := .fields m } := fun p hp => by
      obtain ⟨m, e⟩ := un.tbls p.2 #[] (tabs p hp)
      exact ⟨_, ok2 p.2 _ e⟩
    refine ⟨rfl, ⟨fun b o e => ?_, fun b o e => ?_⟩, os, bare⟩
    · by_cases m : b ∈ cs.map (·.2)
      · obtain ⟨p, hp, rfl⟩ := List.mem_map.mp m
        rw [empty p hp] at e
        cases e
        obtain ⟨m2, e2⟩ := more p hp
        exact .inr (.inl ⟨((code p hp).tab (empty p hp)).isCodeTable, rfl, #[], m2, rfl, by rw [Array.empty_append]; exact e2⟩)
      · exact .inl (same b o m e)
    · by_cases m : b ∈ cs.map (·.2)
      · obtain ⟨p, hp, rfl⟩ := List.mem_map.mp m
        obtain ⟨m2, e2⟩ := more p hp
        exact ⟨_, e2⟩
      · exact ⟨o, same b o m e⟩
end
/-- the head of a law with tables, and with defs that ask repr (or none) -/
theorem walkT {l : PySem.W.OpenLaw} {n k : Nat} {q : Program} {loose : List Str} {XP : (Str → Option Value) → Heap → Prop} {YP : World → Heap → Prop} {d : DefRec} {K : Params → PySem.W.Frag} {x : Str} (makers : List Str) (most : l.most = some n) (le : n ≤ sizeLine)
    (nod : d.params.defaults = []) (hr : Room k callerA) (known : ∀ m ∈ makers, ((recsOf q).find? fun e => e.name == m).isSome = true) (part : ∀ (w : World) (h : Heap), YP w h → (K w.params).In h)
    (F : ∀ (w : World) (mg : Str → Option Value) (fa : Addr) (h : Heap), (K w.params).In h → h.Ns mainGlobals mg → mg d.name = some (.ref fa) →
      ∃ (fd : FuncData) (cs : List (Addr × Addr)) (sp : L2.Sp), (∀ p ∈ cs, (K w.params).lookup p.2 = none) ∧ (∀ p ∈ cs, ∃ m ∈ makers, PySem.W.tabIn (K w.params) m = some p) ∧ (∀ (s : Shared) (v : Value), BindsTo s fd ⟨[v], []⟩ [(x, v)]) ∧
        (∀ (H : Hp) (a : Addr) (ns : List Int), ns.length ≤ n → (∀ p ∈ cs, H p.2 = some (.tbl #[])) → SqL (K w.params) H a (ns.map V.int) → sp [.ref a] H (fun v _ => v = .bl true) fun _ _ _ => False) ∧
        ∀ base : Heap, (K w.params).In base → base.Ns mainGlobals mg → (∀ p ∈ cs, TabB base mg p.1 p.2) → FnG l.prog w (K w.params) mg base k fa fd [x] sp) :
    PySem.W.WalkO q loose XP YP l.row.toRowW d [] (fun f vs => PySem.call f vs) := by
  refine Att.attach_call most nod fun w s0 z mg mb fa o pm cd doc a us ns G Y ho hd hcd hmg at_ hi hl gs => ?_
  have kin := part w _ Y
  obtain ⟨fd, cs, sp, nK, tin, bd, want, FF⟩ := F w mg fa _ kin G.T.g hmg
  have rv := vals_ints hi
  have len : ns.length ≤ sizeLine := Nat.le_trans hl le
  have tab : ∀ p ∈ cs, PySem.W.CodeHd z.heap p.1 p.2 ∧ z.heap.get? p.2 = some { cls := .none, data := .fields #[] } := fun p hp => by
    obtain ⟨m, hm, e⟩ := tin p hp
    obtain ⟨dm, hdm⟩ := Option.isSome_iff_exists.mp (known m hm)
    exact PySem.W.tab_of G.T kin hdm e
  cases hk : (K w.params).lookup a with
  | some o2 =>
    have e := kin a o2 hk
    rw [at_] at e
    cases e
    refine held_ofT (cs := cs) (u := none) (fun _ e => nomatch e) kin G.T.g G.T.b G.T.builtins G.T.nolimit gs G.T.bmain (fun p hp => (tab p hp).2) nK (fun p hp => (tab p hp).1) at_ rv len hr FF bd (.inr ⟨_, us.toArray, _, hk, rfl, rfl, rfl, ?_, by simpa using rv⟩) fun H h h2 => want H a ns hl h h2
    rw [List.size_toArray, hi.length]
    exact len
  | none =>
    exact held_ofT (cs := cs) (u := some (.frz { cls := .type "list", data := .seq us.toArray } (.lst (ns.map V.int)))) (fun v e => ⟨hk, (Option.some.inj e).symm⟩) kin G.T.g G.T.b G.T.builtins G.T.nolimit gs G.T.bmain (fun p hp => (tab p hp).2) nK (fun p hp => (tab p hp).1) at_ rv len hr FF bd (.inl (.inr ⟨_, if_pos rfl⟩)) fun H h h2 => want H a ns hl h h2
end Gd

/-! sorted(xs), xs a list of triples of whole numbers of any size. -/
namespace Tri
open PySem PySem.Spec PyProof.Rows SrtO
abbrev T3 := Int × Int × Int
/-- one triple ahead of another: by the first number, then the second, then the third -/
def before (a b : T3) : Prop := a.1 < b.1 ∨ (a.1 = b.1 ∧ (a.2.1 < b.2.1 ∨ (a.2.1 = b.2.1 ∧ a.2.2 < b.2.2)))
instance (a b : T3) : Decidable (before a b) := by unfold before; infer_instance
def bef (a b : T3) : Bool := decide (before a b)
theorem bef_yes {a b : T3} : bef a b = true ↔ before a b := decide_eq_true_iff
theorem bef_no {a b : T3} : bef a b = false ↔ ¬ before a b := decide_eq_false_iff_not
theorem swo3 {α : Type} (k : α → T3) : Swo fun v u => bef (k v) (k u) := by
  refine ⟨fun x y h => ?_, fun x y z h1 h2 => ?_⟩
  · have a := bef_yes.mp h
    refine bef_no.mpr ?_
    unfold before at *
    omega
  · have a := bef_no.mp h1
    have b := bef_no.mp h2
    refine bef_no.mpr ?_
    unfold before at *
    omega
/-- a tuple of three whole numbers -/
def Is3 (h : Heap) (v : Value) (x : T3) : Prop := ∃ (a : Addr) (o : Obj) (t u z : Tok) (n : Nat), v = .ref a ∧ h.get? a = some o ∧ o.cls = .type "tuple" ∧ o.data = .seq #[.int x.1 t, .int x.2.1 u, .int x.2.2 z] n
theorem Is3.stay {h h' : Heap} {v : Value} {x : T3} (i : Is3 h v x) (k : ∀ b o, h.get? b = some o → o.cls = .type "tuple" → h'.get? b = some o) : Is3 h' v x := by
  obtain ⟨a, o, t, u, z, n, e, ho, hc, hd⟩ := i
  exact ⟨a, o, t, u, z, n, e, k a o ho hc, hc, hd⟩
theorem heads {h : Heap} {k : Value → T3} : ∀ {vs : List Value}, (∀ v ∈ vs, Is3 h v (k v)) → ∃ fs : List Value, PySem.W.KatTups h vs fs ∧ fs.length = vs.length ∧ ∀ f ∈ fs, ∃ x t, f = Value.int x t
  | [], _ => ⟨[], PySem.W.KatTups.nil, rfl, fun _ z => nomatch z⟩
  | v :: vs, g => by
    obtain ⟨fs, h1, h2, h3⟩ := heads (vs := vs) fun u hu => g u (List.mem_cons_of_mem _ hu)
    obtain ⟨a, o, t, u, z, n, e, ho, hc, hd⟩ := g v List.mem_cons_self
    generalize (k v).1 = x at hd
    subst e
    refine ⟨.int x t :: fs, PySem.W.KatTups.cons ho hc hd rfl h1, by rw [List.length_cons, List.length_cons, h2], fun f hf => ?_⟩
    rcases List.mem_cons.mp hf with q | q
    · exact ⟨x, t, q⟩
    · exact h3 f q
section
variable {prog : Program} {w : World} {A : Around} {E : Value → Shared → Prop} {s : Shared}
theorem cmp3 {vs : List Value} {k : Value → T3} (g : ∀ v ∈ vs, Is3 s.heap v (k v)) : Cmp prog w A s (tuples' true) (fun p => p.1 ∈ vs) (lt2 fun v u => bef (k v) (k u)) := by
  intro p q hp hq
  have g1 := g _ hp
  have g2 := g _ hq
  show wpAny (model prog w) A (keyLt' (tuples' true) p.1 q.1) (fun r s' => s' = s ∧ r = bef (k p.1) (k q.1)) (fun _ _ => False) s
  generalize k p.1 = x at g1 ⊢
  generalize k q.1 = y at g2 ⊢
  obtain ⟨x1, x2, x3⟩ := x
  obtain ⟨y1, y2, y3⟩ := y
  obtain ⟨a, o, t, u, z, n, e, ho, hc, hd⟩ := g1
  obtain ⟨a', o', t', u', z', n', e', ho', hc', hd'⟩ := g2
  rw [e, e']
  dsimp only at hd hd'
  have yes : ∀ {b : Bool}, (b = true ↔ before (x1, x2, x3) (y1, y2, y3)) → (s = s ∧ b = bef (x1, x2, x3) (y1, y2, y3)) := fun {b} i => ⟨rfl, by
    cases b with
    | true => exact (bef_yes.mpr (i.mp rfl)).symm
    | false => exact (bef_no.mpr fun q => (by cases i.mpr q)).symm⟩
  refine PySem.W.kat_lt ho hd ho' hd' ?_
  show PySem.W.KatLex prog w A true (decide (3 < 3)) _ [(.int x1 t, .int y1 t'), (.int x2 u, .int y2 u'), (.int x3 z, .int y3 z')] 0 s
  refine PySem.W.kat_cons (SeqAt.EqAt.int_int x1 t y1 t' prog w _ _ (PySem.W.kat_go (fun e1 => ?_) (fun e1 => ?_)))
  · have i1 : x1 = y1 := by simpa using e1
    refine PySem.W.kat_yes (PySem.W.kat_cons (SeqAt.EqAt.int_int x2 u y2 u' prog w _ _ (PySem.W.kat_go (fun e2 => ?_) (fun e2 => ?_))))
    · have i2 : x2 = y2 := by simpa using e2
      refine PySem.W.kat_yes (PySem.W.kat_cons (SeqAt.EqAt.int_int x3 z y3 z' prog w _ _ (PySem.W.kat_go (fun e3 => ?_) (fun e3 => ?_))))
      · have i3 : x3 = y3 := by simpa using e3
        refine PySem.W.kat_yes (PySem.W.kat_nil (yes ?_))
        rw [decide_eq_true_iff]
        show 3 < 3 ↔ _
        unfold before
        dsimp only
        omega
      · have i3 : ¬ x3 = y3 := by simpa using e3
        refine PySem.W.kat_no (PySem.W.kat_one _ _ (PyProof.Rows.lt_int (yes ?_)))
        rw [decide_eq_true_iff]
        unfold before
        dsimp only
        omega
    · have i2 : ¬ x2 = y2 := by simpa using e2
      refine PySem.W.kat_no (PySem.W.kat_one _ _ (PyProof.Rows.lt_int (yes ?_)))
      rw [decide_eq_true_iff]
      unfold before
      dsimp only
      omega
  · have i1 : ¬ x1 = y1 := by simpa using e1
    refine PySem.W.kat_no (oneLt_int (yes ?_))
    rw [decide_eq_true_iff]
    unfold before
    dsimp only
    omega
theorem sortable3 {a : Addr} {vs : List Value} {k : Value → T3} (pos : 0 < vs.length) (g : ∀ v ∈ vs, Is3 s.heap v (k v)) (na : ∀ o, s.heap.get? a = some o → o.cls ≠ .type "tuple") : SortableO prog w A s a vs fun v u => bef (k v) (k u) := by
  intro h' keep
  have g' : ∀ v ∈ vs, Is3 h' v (k v) := fun v hv => (g v hv).stay fun b o e c => keep b o (fun z => na o (z ▸ e) c) e
  obtain ⟨fs, h1, h2, h3⟩ := heads g'
  refine ⟨tuples' true, fun Q E hq => ?_, cmp3 g'⟩
  refine PySem.W.kat_kind (T := .type "int") h1 (by omega) (fun f hf => ?_) (by rfl) ?_
  · obtain ⟨x, t, rfl⟩ := h3 f hf
    exact PySem.W.Looks.now
  · have e : (Value.type "int" != Value.type "tuple") = true := by first | decide +kernel | rfl | decide
    rw [e]
    exact hq
theorem sorted3 {l : Addr} {vs : List Value} {k : Value → T3} {Q : Value → Shared → Prop} (hl : s.heap.IsList l vs.toArray) (hz : vs.length ≤ sizeLine) (g : ∀ v ∈ vs, Is3 s.heap v (k v))
    (h : ∀ (h' : Heap) (d : Addr) (out : List Value), Srtd (fun v u => bef (k v) (k u)) out → Stb (fun v u => bef (k v) (k u)) out vs → (∀ b o, s.heap.get? b = some o → h'.get? b = some o) → s.heap.objs.size ≤ d → (∃ n, h'.get? d = some (seqObj "list" out.toArray n)) → Q (.ref d) { s with heap := h' }) :
    wpAny (model prog w) A (call (.builtin "sorted") [.ref l]) Q E s := by
  refine sorted_ord (swo3 k) hl hz (fun h2 h₁ a ha kk => ?_) fun out hs hb => h _ _ out hs hb (fun b o e => sortedAll_old e) (Nat.le_succ _) (sortedAll_at s.heap vs out.toArray)
  refine sortable3 (s := { s with heap := h₁ }) (by omega) (fun v hv => (g v hv).stay fun b o e _ => (kk b o e).2) fun o e c => ?_
  have e' : some o = some (seqObj "list" vs.toArray 0) := e.symm.trans ha
  cases e'
  exact absurd (Value.type.inj c) (by decide)
end
end Tri
namespace Tri
open PySem PySem.Spec PyProof.Rows L2
/-- sorted(xs), xs a list of tuples of three whole numbers (k says which) -/
def rSorted3 (K : PySem.W.Frag) : List V → Hp → VK → Prop := fun vs H Q => ∃ (a : Addr) (xs : List V) (k : V → T3), vs = [V.ref a] ∧ SqL K H a xs ∧ (∀ x ∈ xs, ∃ t, x = V.ref t ∧ H t = some (.tup [.int (k x).1, .int (k x).2.1, .int (k x).2.2])) ∧
  ∀ ys p, ys.Perm xs → (ys.map k).Pairwise (fun a b => ¬ before b a) → H p = none → Q (.ref p) (upd H p (.lst ys))
theorem cr_sorted3 {X : Cx} : CallR X (.builtin "sorted") (rSorted3 X.K) := by
  intro pins z σ H vs us Q I r h
  obtain ⟨a, xs, k, rfl, hs, hx, q⟩ := h
  obtain ⟨its, rv, hl, hz⟩ := I.list hs
  obtain ⟨u, rfl, ru⟩ := vals1 r
  obtain rfl : u = Value.ref a := ru
  obtain ⟨e1, e2⟩ := refs_back rv fun x m => (hx x m).imp fun t e => e.1
  refine sorted3 (k := fun u => k (backV u)) hl.isList (by rw [← rv.length]; exact hz) (fun v hv => ?_) fun h' d out h1 h2 kp hd hn => ?_
  · obtain ⟨t, rfl⟩ := e2 v hv
    obtain ⟨t', e, ht⟩ := hx (V.ref t) (by rw [e1]; exact List.mem_map.mpr ⟨_, hv, rfl⟩)
    cases e
    obtain ⟨_, its2, r2, o, ho, hc, n, hd⟩ := I.hok _ _ ht
    cases r2 with
    | cons ra rr =>
      cases rr with
      | cons rb rs =>
        cases rs with
        | cons rc rt =>
          cases rt
          obtain ⟨t1, rfl⟩ := ra
          obtain ⟨t2, rfl⟩ := rb
          obtain ⟨t3, rfl⟩ := rc
          exact ⟨t, o, t1, t2, t3, n, rfl, ho, hc, hd⟩
  · have h3 : ∀ u ∈ out, ∃ a, u = Value.ref a := fun u hu => e2 u (h2.perm.mem_iff.mp hu)
    obtain ⟨n, hn⟩ := hn
    have hp : (out.map backV).Perm xs := by rw [e1]; exact h2.perm.map backV
    refine ⟨.ref d, upd H d (.lst (out.map backV)), I.laid (t' := z.toks) kp hd ⟨?_, out, n, vals_back h3, hn⟩, rfl, q _ d hp ?_ (I.hok.fresh hd)⟩
    · rw [hp.length_eq]
      exact hz
    · rw [List.map_map, List.pairwise_map]
      exact h1.imp fun g => bef_no.mp g
end Tri
namespace Tri
open Sp
/-! ### all pairs of places, in order -/
def rowP (x : Int) (i : Nat) : List Int → Nat → List T3
  | [], _ => []
  | y :: ms, j => (x + y, (i : Int), (j : Int)) :: rowP x i ms (j + 1)
def allP : List Int → Nat → List Int → List T3
  | [], _, _ => []
  | x :: ns, i, ms => rowP x i ms 0 ++ allP ns (i + 1) ms
theorem rowP_snoc (x : Int) (i : Nat) (y : Int) : ∀ (ms : List Int) (j : Nat), rowP x i (ms ++ [y]) j = rowP x i ms j ++ [(x + y, (i : Int), ((j + ms.length : Nat) : Int))]
  | [], j => rfl
  | z :: ms, j => by
    show _ :: rowP x i (ms ++ [y]) (j + 1) = _ :: (rowP x i ms (j + 1) ++ _)
    rw [rowP_snoc x i y ms (j + 1), List.length_cons, show j + 1 + ms.length = j + (ms.length + 1) from by omega]
theorem allP_snoc (x : Int) (ms : List Int) : ∀ (ns : List Int) (i : Nat), allP (ns ++ [x]) i ms = allP ns i ms ++ rowP x (i + ns.length) ms 0
  | [], i => by show rowP x i ms 0 ++ [] = _; rw [List.append_nil]; rfl
  | z :: ns, i => by
    show rowP z i ms 0 ++ allP (ns ++ [x]) (i + 1) ms = (rowP z i ms 0 ++ allP ns (i + 1) ms) ++ _
    rw [allP_snoc x ms ns (i + 1), List.length_cons, List.append_assoc, show i + 1 + ns.length = i + (ns.length + 1) from by omega]
theorem rowP_len (x : Int) (i : Nat) : ∀ (ms : List Int) (j : Nat), (rowP x i ms j).length = ms.length
  | [], _ => rfl
  | _ :: ms, j => by show (rowP x i ms (j + 1)).length + 1 = _; rw [rowP_len x i ms (j + 1)]; rfl
theorem allP_len (ms : List Int) : ∀ (ns : List Int) (i : Nat), (allP ns i ms).length = ns.length * ms.length
  | [], _ => by rw [List.length_nil, Nat.zero_mul]; rfl
  | x :: ns, i => by
    show (rowP x i ms 0 ++ allP ns (i + 1) ms).length = _
    rw [List.length_append, rowP_len, allP_len ms ns (i + 1), List.length_cons, Nat.add_mul, Nat.one_mul, Nat.add_comm]
theorem rowP_mem {x : Int} {i : Nat} {t : T3} : ∀ {ms : List Int} {j : Nat}, t ∈ rowP x i ms j ↔ ∃ (n : Nat) (y : Int), ms[n]? = some y ∧ t = (x + y, (i : Int), ((j + n : Nat) : Int))
  | [], j => by simp [rowP]
  | z :: ms, j => by
    show t ∈ _ :: rowP x i ms (j + 1) ↔ _
    rw [List.mem_cons, rowP_mem (ms := ms) (j := j + 1)]
    constructor
    · rintro (rfl | ⟨n, y, h1, rfl⟩)
      · exact ⟨0, z, rfl, rfl⟩
      · exact ⟨n + 1, y, h1, by rw [show j + 1 + n = j + (n + 1) from by omega]⟩
    · rintro ⟨n, y, h1, rfl⟩
      cases n with
      | zero => exact .inl (by cases h1; rfl)
      | succ n => exact .inr ⟨n, y, h1, by rw [show j + 1 + n = j + (n + 1) from by omega]⟩
theorem allP_mem {ms : List Int} {t : T3} : ∀ {ns : List Int} {i : Nat}, t ∈ allP ns i ms ↔ ∃ (m n : Nat) (x y : Int), ns[m]? = some x ∧ ms[n]? = some y ∧ t = (x + y, ((i + m : Nat) : Int), (n : Int))
  | [], i => by simp [allP]
  | z :: ns, i => by
    show t ∈ rowP z i ms 0 ++ allP ns (i + 1) ms ↔ _
    rw [List.mem_append, rowP_mem, allP_mem (ns := ns) (i := i + 1)]
    constructor
    · rintro (⟨n, y, h1, rfl⟩ | ⟨m, n, x, y, h1, h2, rfl⟩)
      · exact ⟨0, n, z, y, rfl, h1, by rw [Nat.zero_add]; rfl⟩
      · exact ⟨m + 1, n, x, y, h1, h2, by rw [show i + 1 + m = i + (m + 1) from by omega]⟩
    · rintro ⟨m, n, x, y, h1, h2, rfl⟩
      cases m with
      | zero => exact .inl ⟨n, y, h2, by cases h1; rw [Nat.zero_add]; rfl⟩
      | succ m => exact .inr ⟨m, n, x, y, h1, h2, by rw [show i + 1 + m = i + (m + 1) from by omega]⟩
/-- how many of a row of the pairs stand ahead of the pair (s, i, j) -/
theorem row_less {s x : Int} {i e j : Nat} (h : e < i) : ∀ (ms : List Int) (b : Nat), (rowP x e ms b).countP (fun t => bef t (s, (i : Int), (j : Int))) = cntB ms (s - x) + ms.count (s - x)
  | [], _ => rfl
  | y :: ms, b => by
    show List.countP _ (_ :: rowP x e ms (b + 1)) = _
    rw [List.countP_cons, row_less h ms (b + 1), cntB_cons, List.count_cons]
    by_cases c : y < s - x
    · rw [if_pos (bef_yes.mpr (.inl (by show x + y < s; omega))), if_pos c, if_neg (by simp; omega)]
      omega
    · by_cases d : y = s - x
      · rw [if_pos (bef_yes.mpr (.inr ⟨by show x + y = s; omega, .inl (by show (e : Int) < (i : Int); omega)⟩)), if_neg c, if_pos (by simp [d])]
        omega
      · have c2 : ¬ bef (x + y, (e : Int), (b : Int)) (s, (i : Int), (j : Int)) = true := fun z => by
          have := bef_yes.mp z
          unfold before at this
          dsimp only at this
          omega
        rw [if_neg c2, if_neg c, if_neg (by simpa using d)]
        omega
theorem row_more {s x : Int} {i e j : Nat} (h : i < e) : ∀ (ms : List Int) (b : Nat), (rowP x e ms b).countP (fun t => bef t (s, (i : Int), (j : Int))) = cntB ms (s - x)
  | [], _ => rfl
  | y :: ms, b => by
    show List.countP _ (_ :: rowP x e ms (b + 1)) = _
    rw [List.countP_cons, row_more h ms (b + 1), cntB_cons]
    by_cases c : y < s - x
    · rw [if_pos (bef_yes.mpr (.inl (by show x + y < s; omega))), if_pos c]
    · rw [if_neg (fun z => ?_), if_neg c]
      have := bef_yes.mp z
      unfold before at this
      dsimp only at this
      omega
theorem row_same {s x : Int} {i j : Nat} : ∀ (ms : List Int) (b : Nat), b ≤ j → (rowP x i ms b).countP (fun t => bef t (s, (i : Int), (j : Int))) = cntB ms (s - x) + (ms.take (j - b)).count (s - x)
  | [], _, _ => by rw [List.take_nil]; rfl
  | y :: ms, b, hb => by
    show List.countP _ (_ :: rowP x i ms (b + 1)) = _
    rw [List.countP_cons, cntB_cons]
    by_cases e : b = j
    · subst e
      have hz : ∀ (ms : List Int) (c : Nat), b < c → (rowP x i ms c).countP (fun t => bef t (s, (i : Int), (b : Int))) = cntB ms (s - x) := by
        intro ms
        induction ms with
        | nil => intro c _; rfl
        | cons z ms ih =>
          intro c hc
          show List.countP _ (_ :: rowP x i ms (c + 1)) = _
          rw [List.countP_cons, ih (c + 1) (by omega), cntB_cons]
          by_cases d : z < s - x
          · rw [if_pos (bef_yes.mpr (.inl (by show x + z < s; omega))), if_pos d]
          · rw [if_neg (fun q => ?_), if_neg d]
            have := bef_yes.mp q
            unfold before at this
            dsimp only at this
            omega
      rw [hz ms (b + 1) (by omega), Nat.sub_self, List.take_zero, List.count_nil]
      by_cases c : y < s - x
      · rw [if_pos (bef_yes.mpr (.inl (by show x + y < s; omega))), if_pos c]
      · rw [if_neg (fun q => ?_), if_neg c]
        have := bef_yes.mp q
        unfold before at this
        dsimp only at this
        omega
    · rw [row_same ms (b + 1) (by omega), show j - b = (j - (b + 1)) + 1 from by omega, List.take_succ_cons, List.count_cons]
      by_cases c : y < s - x
      · rw [if_pos (bef_yes.mpr (.inl (by show x + y < s; omega))), if_pos c, if_neg (by simp; omega)]
        omega
      · by_cases d : y = s - x
        · have c1 : bef (x + y, (i : Int), (b : Int)) (s, (i : Int), (j : Int)) = true := bef_yes.mpr (.inr ⟨by show x + y = s; omega, .inr ⟨rfl, by show (b : Int) < (j : Int); omega⟩⟩)
          rw [if_pos c1, if_neg c, if_pos (by simp [d])]
          omega
        · have c2 : ¬ bef (x + y, (i : Int), (b : Int)) (s, (i : Int), (j : Int)) = true := fun z => by
            have := bef_yes.mp z
            unfold before at this
            dsimp only at this
            omega
          rw [if_neg c2, if_neg c, if_neg (by simpa using d)]
          omega
theorem all_more {s : Int} {i j : Nat} {ms : List Int} : ∀ (ns : List Int) (e : Nat), i < e → (allP ns e ms).countP (fun t => bef t (s, (i : Int), (j : Int))) = cntS ns ms s
  | [], _, _ => rfl
  | x :: ns, e, h => by
    show List.countP _ (rowP x e ms 0 ++ allP ns (e + 1) ms) = _
    rw [List.countP_append, row_more h, all_more ns (e + 1) (by omega), cntS_cons]
/-- how many pairs stand ahead of (s, i, j): those of a lesser sum, those of its sum in the rows ahead, those of its sum ahead in its own row -/
theorem all_ahead {s x : Int} {j : Nat} {ms : List Int} : ∀ (ns : List Int) (e i : Nat), ns[i]? = some x →
    (allP ns e ms).countP (fun t => bef t (s, ((e + i : Nat) : Int), (j : Int))) = cntS ns ms s + ((ns.take i).map fun z => ms.count (s - z)).sum + (ms.take j).count (s - x)
  | [], _, i, h => by simp at h
  | z :: ns, e, 0, h => by
    obtain rfl : z = x := Option.some.inj h
    show List.countP _ (rowP z e ms 0 ++ allP ns (e + 1) ms) = _
    rw [List.countP_append, Nat.add_zero, row_same ms 0 (Nat.zero_le _), all_more ns (e + 1) (by omega), cntS_cons, List.take_zero, List.map_nil, List.sum_nil, Nat.sub_zero]
    omega
  | z :: ns, e, i + 1, h => by
    have ih := all_ahead (s := s) (j := j) (ms := ms) ns (e + 1) i h
    show List.countP _ (rowP z e ms 0 ++ allP ns (e + 1) ms) = _
    rw [List.countP_append, row_less (by omega), cntS_cons, List.take_succ_cons, List.map_cons, List.sum_cons]
    rw [show e + 1 + i = e + (i + 1) from by omega] at ih
    rw [ih]
    omega
/-- all pairs of both rows, sorted -/
structure Ord (ns ms : List Int) (L : List T3) : Prop where
  perm : L.Perm (allP ns 0 ms)
  sort : L.Pairwise fun a b => ¬ before b a
theorem before_or {a b : T3} (h : ¬ before b a) : before a b ∨ a = b := by
  obtain ⟨a1, a2, a3⟩ := a
  obtain ⟨b1, b2, b3⟩ := b
  unfold before at *
  dsimp only at *
  by_cases c : a1 = b1 ∧ a2 = b2 ∧ a3 = b3
  · obtain ⟨rfl, rfl, rfl⟩ := c
    exact .inr rfl
  · left
    omega
/-- in a sorted list an item stands behind just those that are ahead of it -/
theorem stands : ∀ {L : List T3} {p : T3}, (L.Pairwise fun a b => ¬ before b a) → p ∈ L → L[L.countP fun t => bef t p]? = some p
  | [], p, _, h => nomatch h
  | a :: L, p, hs, hm => by
    have hs' := List.pairwise_cons.mp hs
    rw [List.countP_cons]
    by_cases c : before a p
    · rw [if_pos (bef_yes.mpr c)]
      have hp : p ∈ L := by
        rcases List.mem_cons.mp hm with e | e
        · rw [e] at c
          unfold before at c
          omega
        · exact e
      rw [List.getElem?_cons_succ]
      exact stands hs'.2 hp
    · rw [if_neg (fun z => c (bef_yes.mp z))]
      have e : a = p := by
        rcases List.mem_cons.mp hm with e | e
        · exact e.symm
        · rcases before_or (hs'.1 p e) with k | k
          · exact absurd k c
          · exact k
      have z : List.countP (fun t => bef t p) L = 0 := by
        rw [List.countP_eq_zero]
        intro b hb hq
        rw [← e] at hq
        exact hs'.1 b hb (bef_yes.mp hq)
      rw [z, e]
      rfl
/-- THE PLACE of a pair in the order -/
theorem Ord.place {ns ms : List Int} {L : List T3} (o : Ord ns ms L) {i j : Nat} {x y : Int} (hx : ns[i]? = some x) (hy : ms[j]? = some y) :
    L[cntS ns ms (x + y) + ((ns.take i).map fun z => ms.count (x + y - z)).sum + (ms.take j).count y]? = some (x + y, (i : Int), (j : Int)) := by
  have m : (x + y, (i : Int), (j : Int)) ∈ L := o.perm.mem_iff.mpr (allP_mem.mpr ⟨i, j, x, y, hx, hy, by rw [Nat.zero_add]⟩)
  have h1 := stands o.sort m
  rw [o.perm.countP_eq] at h1
  have h2 := all_ahead (s := x + y) (j := j) (ms := ms) ns 0 i hx
  rw [Nat.zero_add, show x + y - x = y from by omega] at h2
  rw [h2] at h1
  exact h1
theorem Ord.len {ns ms : List Int} {L : List T3} (o : Ord ns ms L) : L.length = ns.length * ms.length := by rw [o.perm.length_eq, allP_len]
/-- there is just one order -/
theorem Ord.one {ns ms : List Int} {L M : List T3} (a : Ord ns ms L) (b : Ord ns ms M) : L = M :=
  (a.perm.trans b.perm.symm).eq_of_pairwise (fun x y _ _ h1 h2 => by
    rcases before_or h1 with k | k
    · exact absurd k h2
    · exact k) a.sort b.sort
/-! ### lists of such tuples in the heap -/
open L2 in
structure Trip (H : Hp) (ts : List PySem.Addr) (L : List T3) : Prop where
  len : ts.length = L.length
  at_ : ∀ (j : Nat) (t : PySem.Addr) (x : T3), ts[j]? = some t → L[j]? = some x → H t = some (.tup [.int x.1, .int x.2.1, .int x.2.2])
section
open L2 PySem
theorem Trip.nil {H : Hp} : Trip H [] [] := ⟨rfl, fun _ _ _ h => by simp at h⟩
theorem Trip.up {H H' : Hp} {ts : List Addr} {L : List T3} (t : Trip H ts L) (s : Same H H') : Trip H' ts L := ⟨t.len, fun j a x h1 h2 => s _ _ (t.at_ j a x h1 h2)⟩
/-- a list's own change leaves the tuples -/
theorem Trip.set {H : Hp} {ts : List Addr} {L : List T3} {D : Addr} {o : HO} {xs : List V} (t : Trip H ts L) (h : H D = some (.lst xs)) : Trip (upd H D o) ts L := ⟨t.len, fun j a x h1 h2 => by
  have e := t.at_ j a x h1 h2
  rw [upd_ne (fun z => by rw [z, h] at e; cases e)]
  exact e⟩
theorem Trip.app {H : Hp} {ts us : List Addr} {L M : List T3} (a : Trip H ts L) (b : Trip H us M) : Trip H (ts ++ us) (L ++ M) := by
  refine ⟨by rw [List.length_append, List.length_append, a.len, b.len], fun j t x h1 h2 => ?_⟩
  by_cases c : j < ts.length
  · rw [List.getElem?_append_left c] at h1
    rw [List.getElem?_append_left (by rw [← a.len]; exact c)] at h2
    exact a.at_ j t x h1 h2
  · rw [List.getElem?_append_right (by omega)] at h1
    rw [List.getElem?_append_right (by rw [← a.len]; omega), ← a.len] at h2
    exact b.at_ _ t x h1 h2
theorem Trip.one {H : Hp} {t : Addr} {x y z : Int} (h : H t = some (.tup [.int x, .int y, .int z])) : Trip H [t] [(x, y, z)] := ⟨rfl, fun j a w h1 h2 => by
  cases j with
  | zero => cases h1; cases h2; exact h
  | succ j => simp at h1⟩
def keyOf (H : Hp) : V → T3
  | .ref t => match H t with
    | some (.tup [.int a, .int b, .int c]) => (a, b, c)
    | _ => (0, 0, 0)
  | _ => (0, 0, 0)
theorem keyOf_at {H : Hp} {t : Addr} {x : T3} (h : H t = some (.tup [.int x.1, .int x.2.1, .int x.2.2])) : keyOf H (.ref t) = x := by
  unfold keyOf
  simp only [h]
theorem Trip.keys {H : Hp} {ts : List Addr} {L : List T3} (t : Trip H ts L) : (ts.map V.ref).map (keyOf H) = L := by
  refine List.ext_getElem? fun j => ?_
  rw [List.map_map, List.getElem?_map]
  cases e : ts[j]? with
  | none =>
    have := List.getElem?_eq_none_iff.mp e
    exact (List.getElem?_eq_none_iff.mpr (by rw [← t.len]; exact this)).symm
  | some a =>
    have h1 := (List.getElem?_eq_some_iff.mp e).1
    have h2 : j < L.length := by rw [← t.len]; exact h1
    rw [List.getElem?_eq_getElem h2]
    exact congrArg some (keyOf_at (t.at_ j a _ e (List.getElem?_eq_getElem h2)))
theorem Trip.mem {H : Hp} {ts : List Addr} {L : List T3} (t : Trip H ts L) {a : Addr} (h : a ∈ ts) : H a = some (.tup [.int (keyOf H (.ref a)).1, .int (keyOf H (.ref a)).2.1, .int (keyOf H (.ref a)).2.2]) := by
  obtain ⟨j, hj⟩ := List.mem_iff_getElem?.mp h
  have h2 : j < L.length := by rw [← t.len]; exact (List.getElem?_eq_some_iff.mp hj).1
  have e := t.at_ j a _ hj (List.getElem?_eq_getElem h2)
  rw [keyOf_at e]
  exact e
theorem all_refs : ∀ {ys : List V}, (∀ y ∈ ys, ∃ t, y = V.ref t) → ∃ us : List Addr, ys = us.map V.ref
  | [], _ => ⟨[], rfl⟩
  | y :: ys, h => by
    obtain ⟨t, rfl⟩ := h y List.mem_cons_self
    obtain ⟨us, rfl⟩ := all_refs fun z hz => h z (List.mem_cons_of_mem _ hz)
    exact ⟨t :: us, rfl⟩
/-- what sorted tells of them -/
theorem Trip.sorted {H : Hp} {ts : List Addr} {L : List T3} {ys : List V} (t : Trip H ts L) (hp : ys.Perm (ts.map V.ref)) : ∃ us : List Addr, ys = us.map V.ref ∧ Trip H us (ys.map (keyOf H)) ∧ (ys.map (keyOf H)).Perm L := by
  obtain ⟨us, rfl⟩ := all_refs fun y hy => by
    obtain ⟨a, _, e⟩ := List.mem_map.mp (hp.mem_iff.mp hy)
    exact ⟨a, e.symm⟩
  refine ⟨us, rfl, ⟨by rw [List.length_map, List.length_map], fun j a x h1 h2 => ?_⟩, ?_⟩
  · rw [List.getElem?_map, List.getElem?_map, h1] at h2
    obtain rfl := Option.some.inj h2
    have m : V.ref a ∈ us.map V.ref := List.mem_map.mpr ⟨a, List.mem_of_getElem? h1, rfl⟩
    obtain ⟨b, hb, e⟩ := List.mem_map.mp (hp.mem_iff.mp m)
    cases e
    exact t.mem hb
  · have := hp.map (keyOf H)
    rw [t.keys] at this
    exact this
end
end Tri
namespace Sp
open PySem L2 Tri
def spOrder (K : PySem.W.Frag) : L2.Sp := fun vs H Q _ => ∃ (p q : Addr) (ns ms : List Int), vs = [.ref p, .ref q] ∧ SqL K H p (ns.map V.int) ∧ SqL K H q (ms.map V.int) ∧ ns.length ≤ 300 ∧ ms.length ≤ 300 ∧
  ∀ (r : Addr) (ts : List Addr) (L : List T3) (H' : Hp), Same H H' → H r = none → H' r = some (.lst (ts.map V.ref)) → Trip H' ts L → Ord ns ms L → Q (.ref r) H'
theorem take_all_rows (ns ms : List Int) : allP (ns.take ns.length) 0 ms = allP ns 0 ms := by rw [take_all]
/-- a tuple of names as a comprehension's target: the written part and the length by name -/
theorem pg_tupK {X : Cx} {K : PySem.W.Frag} {es : List Expr} {k : Nat} {pos : Pos} {t : TGs} {n : Nat} (hK : X.K = K) (hc : X.calm = true) (h : PGs X es t) (hn : (assignEach es X.env).length = n) (hst : (assignEach es X.env).findIdx? (·.1) = none) : PG X (.Tuple es k pos) (gTup K n t) := hK ▸ pg_tup hc h hn hst
/-! ### what the laws of the order promise -/
def tri (w : T3) : List V := [.int w.1, .int w.2.1, .int w.2.2]
abbrev dt (w : T3) : PyData := .tuple [.int w.1, .int w.2.1, .int w.2.2]
structure Sml (w : T3) : Prop where
  a : w.1.natAbs.log2 < 60
  b : w.2.1.natAbs.log2 < 60
  c : w.2.2.natAbs.log2 < 60
theorem dp_tri {K : PySem.W.Frag} {H : Hp} {t : Addr} {w : T3} (h : H t = some (.tup (tri w))) : Dp K H (.ref t) (dt w) := .tup (.inl (.inl h)) (.cons (.int _) (.cons (.int _) (.cons (.int _) .nil)))
theorem lay_tri (w : T3) : PyData.canLay0 (dt w) = true := by simp only [PyData.canLay0, PyData.canLayAll0]; rfl
theorem shaped_tri (w : T3) : SeqAt.shaped (dt w) = true := by
  unfold SeqAt.shaped
  rw [lay_tri]
  simp only [PyData.depth, PyData.depthAll]
  rfl
theorem shown_tri {w : T3} (h : Sml w) : (dt w).showable = true ∧ (dt w).hasDict = false ∧ (dt w).shown.length ≤ sizeLine ∧ (dt w).depth ≤ 60 := by
  obtain ⟨h1, h2, h3⟩ := Gd.show_ints [w.1, w.2.1, w.2.2] (by
    intro n hn
    simp only [List.mem_cons, List.not_mem_nil, or_false] at hn
    rcases hn with rfl | rfl | rfl
    · exact h.a
    · exact h.b
    · exact h.c)
  refine ⟨?_, PyData.hasDict_of_canLay _ (lay_tri w), ?_, ?_⟩
  · rw [PyData.showable]; exact h1
  · have := PyData.shown_le 61 (by decide) (dt w) (by rw [PyData.leavesShort]; exact h2)
    rw [PyData.weight] at this
    have e : sizeLine = 16777216 := by decide
    have e2 : PyData.weightAll [PyData.int w.1, .int w.2.1, .int w.2.2] ≤ 61 * 3 := h3
    omega
  · simp only [PyData.depth, PyData.depthAll]; decide
/-- a tuple as it should be, or None as it should be -/
def spTuple : L2.Sp := fun vs H Q _ => (vs = [.non, .non] ∨ ∃ (t u : Addr) (w : T3), vs = [.ref t, .ref u] ∧ H t = some (.tup (tri w)) ∧ H u = some (.tup (tri w)) ∧ Sml w) ∧ Q (.bl true) H
/-- the so-manieth pair -/
def spSumAt (K : PySem.W.Frag) : L2.Sp := fun vs H Q _ => ∃ (p q : Addr) (ns ms : List Int) (n : Nat) (L : List T3) (w : T3), vs = [.ref p, .ref q, .int (n : Int)] ∧ SqL K H p (ns.map V.int) ∧ SqL K H q (ms.map V.int) ∧ ns.Pairwise (· ≤ ·) ∧ ms.Pairwise (· ≤ ·) ∧ ns.length ≤ 1000 ∧ ms.length ≤ 1000 ∧
  Ord ns ms L ∧ L[n]? = some w ∧ ∀ (t : Addr) (H' : Hp), Same H H' → H' t = some (.tup (tri w)) → Q (.ref t) H'
/-- places that are asked for -/
def spPlaces : L2.Sp := fun vs H Q _ => ∃ (a d : Addr) (ts : List Addr) (L : List T3), vs = [.ref a, .ref d] ∧ HandAt H a ∧ d ≠ a ∧ H d = some (.lst (ts.map V.ref)) ∧ Trip H ts L ∧ L.length ≤ 90000 ∧
  ∀ (r : Addr) (ps : List Int) (H' : Hp), Ext a H H' → H r = none → H' r = some (.lst (ps.map V.int)) → (∀ n ∈ ps, 0 ≤ n ∧ n < L.length) → Q (.ref r) H'
theorem Trip.ext {a : Addr} {H H' : Hp} {ts : List Addr} {L : List T3} (t : Trip H ts L) (h : HandAt H a) (e : Ext a H H') : Trip H' ts L := ⟨t.len, fun j b x h1 h2 => by
  have g := t.at_ j b x h1 h2
  obtain ⟨u, v, hh, _⟩ := h
  exact e.keep _ _ g fun z => by rw [z, hh] at g; cases g⟩
theorem rgV_ints (n : Nat) : rgV 0 (n : Int) = ((List.range n).map fun (k : Nat) => (k : Int)).map V.int := by
  unfold rgV
  rw [List.map_map, show ((n : Int) - 0).toNat = n from by omega]
  refine List.map_congr_left fun k _ => ?_
  show V.int (0 + (k : Int)) = V.int (k : Int)
  rw [Int.zero_add]
theorem eqv_tri (w : T3) : PyData.eqv (dt w) (dt w) = true := by
  rw [PyData.eqv]
  refine eqvAll_same fun x hx => ?_
  simp only [List.mem_cons, List.not_mem_nil, or_false] at hx
  rcases hx with rfl | rfl | rfl <;> simp [PyData.eqv]
theorem log_of {n : Int} (h1 : -1000000000000000000 < n) (h2 : n < 1000000000000000000) : n.natAbs.log2 < 60 := by
  by_cases h0 : n.natAbs = 0
  · rw [h0]; decide
  · exact (Nat.log2_lt h0).mpr (by omega)
theorem ord_small {ns ms : List Int} {L : List T3} (o : Ord ns ms L) (fn : Fine ns) (fm : Fine ms) (l1 : ns.length ≤ 1000) (l2 : ms.length ≤ 1000) {n : Nat} {w : T3} (h : L[n]? = some w) : Sml w := by
  obtain ⟨i, j, x, y, hx, hy, rfl⟩ := allP_mem.mp (o.perm.mem_iff.mp (List.mem_of_getElem? h))
  have h1 := (List.getElem?_eq_some_iff.mp hx).1
  have h2 := (List.getElem?_eq_some_iff.mp hy).1
  have b1 := fn.2 x (List.mem_of_getElem? hx)
  have b2 := fm.2 y (List.mem_of_getElem? hy)
  exact ⟨log_of (by show _ < x + y; omega) (by show x + y < _; omega), log_of (by show _ < ((0 + i : Nat) : Int); omega) (by show ((0 + i : Nat) : Int) < _; omega), log_of (by show _ < (j : Int); omega) (by show (j : Int) < _; omega)⟩
end Sp

namespace Sp
open PySem L2
/-! ### differences: the rows of these laws -/
def spNumber : L2.Sp := fun vs H Q _ => ∃ (a : Addr) (k x y : Int), vs = [.ref a, .int k, .int x, .int y] ∧ HandAt H a ∧ (-100 ≤ x ∧ x ≤ 100) ∧ (0 ≤ y ∧ y ≤ 300000000000000) ∧
  ∀ (r : Int) (H' : Hp), Ext a H H' → -1000000000000000 ≤ r → r ≤ 1000000000000000 → Q (.int r) H'
def spRow21 : L2.Sp := fun vs H Q _ => ∃ (a : Addr) (n : Nat), vs = [.ref a, .int (n : Int)] ∧ HandAt H a ∧ n ≤ 300 ∧ ∀ (p : Addr) (ns : List Int) (H' : Hp), Ext a H H' → H p = none → H' p = some (.lst (ns.map V.int)) → ns.length ≤ 300 → Fine ns → Q (.ref p) H'
def spSize : L2.Sp := fun vs H Q _ => ∃ (a : Addr) (k : Int), vs = [.ref a, .int k, .int 300] ∧ HandAt H a ∧ ∀ (n : Nat) (H' : Hp), Ext a H H' → n ≤ 300 → Q (.int (n : Int)) H'
def spTwo21 : L2.Sp := fun vs H Q _ => ∃ (a : Addr) (k : Int), vs = [.ref a, .int k] ∧ HandAt H a ∧
  ∀ (t p q : Addr) (ns ms : List Int) (H' : Hp), Ext a H H' → H' t = some (.lst [.ref p, .ref q]) → t ≠ a → RowAt H' a p ns → RowAt H' a q ms → H p = none → H q = none → Q (.ref t) H'
theorem cut_to (xs : List V) (n : Nat) : (cutV xs none (some (n : Int))).length ≤ n := by
  unfold cutV
  rw [List.length_take]
  refine Nat.le_trans (Nat.min_le_left _ _) (Nat.le_trans (Nat.sub_le _ _) ?_)
  simp only [HT.sIx]
  first | omega | (split <;> omega) | (split <;> split <;> omega)
/-- how many differences, first less second, are below n -/
def cntD (ns ms : List Int) (n : Int) : Nat := (ns.map fun x => ms.countP fun y => decide (x - y < n)).sum
theorem cntD_snoc (ns ms : List Int) (x n : Int) : cntD (ns ++ [x]) ms n = cntD ns ms n + ms.countP fun y => decide (x - y < n) := by
  unfold cntD
  rw [List.map_append, List.sum_append]
  rfl
def spDiff (K : PySem.W.Frag) : L2.Sp := fun vs H Q _ => ∃ (p q : Addr) (ns ms : List Int) (n : Int), vs = [.ref p, .ref q, .int n] ∧ SqL K H p (ns.map V.int) ∧ SqL K H q (ms.map V.int) ∧ ns.Pairwise (· ≤ ·) ∧ ms.Pairwise (· ≤ ·) ∧ ns.length ≤ 1000 ∧ ms.length ≤ 1000 ∧
  ∀ H', Same H H' → Q (.int (cntD ns ms n : Nat)) H'
def spAsked21 (K : PySem.W.Frag) : L2.Sp := fun vs H Q _ => ∃ (a s : Addr) (xs : List Int), vs = [.ref a, .ref s] ∧ HandAt H a ∧ s ≠ a ∧ H s = some (.lst (xs.map V.int)) ∧ 0 < xs.length ∧ xs.length ≤ 1000 ∧ (∀ x ∈ xs, -(2 ^ 60) < x ∧ x < 2 ^ 60) ∧
  ∀ (r : Addr) (zs : List Int) (H' : Hp), Ext a H H' → H r = none → H' r = some (.lst (zs.map V.int)) → zs.length ≤ 9 → Q (.ref r) H'
def spRight21 (K : PySem.W.Frag) : L2.Sp := fun vs H Q _ => ∃ (p q : Addr) (ns ms : List Int) (n : Int), vs = [.ref p, .ref q, .int n] ∧ SqL K H p (ns.map V.int) ∧ SqL K H q (ms.map V.int) ∧ ns.Pairwise (· ≤ ·) ∧ ms.Pairwise (· ≤ ·) ∧ ns.length ≤ 300 ∧ ms.length ≤ 300 ∧ ∀ H', Same H H' → Q (.bl true) H'
theorem cut_from (xs : List V) (k : Nat) : cutV xs (some (k : Int)) none = xs.drop k := by
  unfold cutV
  rw [HT.sIx_nat, HT.sIx_none]
  by_cases h : k ≤ xs.length
  · rw [Nat.min_eq_left h]
    exact List.take_of_length_le (by rw [List.length_drop]; exact Nat.le_refl _)
  · rw [Nat.min_eq_right (by omega), List.drop_of_length_le (Nat.le_refl _), List.drop_of_length_le (by omega), List.take_nil]
/-- how many differences within a row, a later one less an earlier one, are below n -/
def cntW : List Int → Int → Nat
  | [], _ => 0
  | x :: xs, n => (xs.countP fun y => decide (y - x < n)) + cntW xs n
theorem cntW_drop {ns : List Int} {i : Nat} {x : Int} (n : Int) (h : ns[i]? = some x) : cntW (ns.drop i) n = ((ns.drop (i + 1)).countP fun y => decide (y - x < n)) + cntW (ns.drop (i + 1)) n := by
  have hl := (List.getElem?_eq_some_iff.mp h).1
  have e : ns.drop i = x :: ns.drop (i + 1) := by
    rw [List.drop_eq_getElem_cons hl, (List.getElem?_eq_some_iff.mp h).2]
  rw [e]
  rfl
def spWith (K : PySem.W.Frag) : L2.Sp := fun vs H Q _ => ∃ (p : Addr) (ns : List Int) (n : Int), vs = [.ref p, .int n] ∧ SqL K H p (ns.map V.int) ∧ ns.Pairwise (· ≤ ·) ∧ ns.length ≤ 1000 ∧ ∀ H', Same H H' → Q (.int (cntW ns n : Nat)) H'
def spRight23 (K : PySem.W.Frag) : L2.Sp := fun vs H Q _ => ∃ (p : Addr) (ns : List Int) (n : Int), vs = [.ref p, .int n] ∧ SqL K H p (ns.map V.int) ∧ ns.Pairwise (· ≤ ·) ∧ ns.length ≤ 300 ∧ ∀ H', Same H H' → Q (.bl true) H'
/-! ### the order of the differences -/
open Tri
theorem rowP_nodup (x : Int) (i : Nat) : ∀ (ms : List Int) (j : Nat), (rowP x i ms j).Nodup
  | [], _ => List.nodup_nil
  | y :: ms, j => by
    show (_ :: rowP x i ms (j + 1)).Nodup
    refine List.nodup_cons.mpr ⟨fun h => ?_, rowP_nodup x i ms (j + 1)⟩
    obtain ⟨n, z, _, e⟩ := rowP_mem.mp h
    have e3 : (j : Int) = ((j + 1 + n : Nat) : Int) := congrArg (fun t : T3 => t.2.2) e
    omega
theorem allP_nodup (ms : List Int) : ∀ (ns : List Int) (i : Nat), (allP ns i ms).Nodup
  | [], _ => List.nodup_nil
  | x :: ns, i => by
    show (rowP x i ms 0 ++ allP ns (i + 1) ms).Nodup
    refine List.nodup_append.mpr ⟨rowP_nodup x i ms 0, allP_nodup ms ns (i + 1), fun a ha b hb e => ?_⟩
    obtain ⟨n, y, _, e1⟩ := rowP_mem.mp ha
    obtain ⟨m, k, u, v, _, _, e2⟩ := allP_mem.mp hb
    rw [e1, e2] at e
    have e3 : (i : Int) = ((i + 1 + m : Nat) : Int) := congrArg (fun t : T3 => t.2.1) e
    omega
theorem ord_exists (ns ms : List Int) : ∃ L, Tri.Ord ns ms L := by
  refine ⟨(allP ns 0 ms).mergeSort fun a b => !bef b a, List.mergeSort_perm _ _, ?_⟩
  refine (List.pairwise_mergeSort (le := fun a b => !bef b a) (fun a b c h1 h2 => ?_) (fun a b => ?_) (allP ns 0 ms)).imp fun {a b} h => ?_
  · have q1 : ¬ before b a := fun z => by rw [bef_yes.mpr z] at h1; cases h1
    have q2 : ¬ before c b := fun z => by rw [bef_yes.mpr z] at h2; cases h2
    have q3 : ¬ before c a := by unfold before at *; omega
    show (!bef c a) = true
    rw [bef_no.mpr q3]
    rfl
  · by_cases z : before b a
    · have z2 : ¬ before a b := by unfold before at *; omega
      rw [bef_no.mpr z2]
      simp
    · rw [bef_no.mpr z]
      simp
  · exact fun z => by rw [bef_yes.mpr z] at h; cases h
/-- what stands at a place of the order, and which place that is -/
theorem ord_at {ns ms : List Int} {L : List T3} (o : Tri.Ord ns ms L) {n : Nat} {w : T3} (h : L[n]? = some w) :
    ∃ (i j : Nat) (x y : Int), ns[i]? = some x ∧ ms[j]? = some y ∧ w = (x + y, (i : Int), (j : Int)) ∧ n = cntS ns ms (x + y) + ((ns.take i).map fun z => ms.count (x + y - z)).sum + (ms.take j).count y := by
  obtain ⟨i, j, x, y, hx, hy, rfl⟩ := allP_mem.mp (o.perm.mem_iff.mp (List.mem_of_getElem? h))
  rw [Nat.zero_add] at h ⊢
  refine ⟨i, j, x, y, hx, hy, rfl, ?_⟩
  have h2 := o.place hx hy
  have nd : L.Nodup := o.perm.nodup_iff.mpr (allP_nodup ms ns 0)
  obtain ⟨k1, e1⟩ := List.getElem?_eq_some_iff.mp h
  obtain ⟨k2, e2⟩ := List.getElem?_eq_some_iff.mp h2
  have e := e1.trans e2.symm
  rcases Nat.lt_trichotomy n (cntS ns ms (x + y) + ((ns.take i).map fun z => ms.count (x + y - z)).sum + (ms.take j).count y) with c | c | c
  · exact absurd e (List.pairwise_iff_getElem.mp nd _ _ k1 k2 c)
  · exact c
  · exact absurd e.symm (List.pairwise_iff_getElem.mp nd _ _ k2 k1 c)
def negs (ms : List Int) : List Int := ms.map fun y => 0 - y
def spDiffAt (K : PySem.W.Frag) : L2.Sp := fun vs H Q _ => ∃ (p q : Addr) (ns ms : List Int) (n : Nat) (L : List T3) (w : T3), vs = [.ref p, .ref q, .int (n : Int)] ∧ SqL K H p (ns.map V.int) ∧ SqL K H q (ms.map V.int) ∧ ns.Pairwise (· ≤ ·) ∧ ms.Pairwise (· ≤ ·) ∧ ns.length ≤ 1000 ∧ ms.length ≤ 1000 ∧
  Tri.Ord ns (negs ms) L ∧ L[n]? = some w ∧ ∀ (t : Addr) (H' : Hp), Same H H' → H' t = some (.tup (tri w)) → Q (.ref t) H'
def spTriple : L2.Sp := fun vs H Q _ => ∃ (t u : Addr) (w : T3), vs = [.ref t, .ref u] ∧ H t = some (.tup (tri w)) ∧ H u = some (.tup (tri w)) ∧ ∀ H', Same H H' → Q (.bl true) H'
theorem call_isiK {X : Cx} {K : PySem.W.Frag} (hK : X.K = K) : CallR X (.builtin "isinstance") (rIsi K) := hK ▸ call_isi
/-- how many pairs stand ahead of a pair, by the law's own count -/
def spAhead (K : PySem.W.Frag) : L2.Sp := fun vs H Q _ => ∃ (p q u : Addr) (ns ms : List Int) (i j : Nat) (x y : Int), vs = [.ref p, .ref q, .ref u] ∧ SqL K H p (ns.map V.int) ∧ SqL K H q (ms.map V.int) ∧ H u = some (.tup [.int (i : Int), .int (j : Int)]) ∧ ns.length ≤ 1000 ∧ ms.length ≤ 1000 ∧ ns[i]? = some x ∧ ms[j]? = some y ∧
  ∀ H', Same H H' → Q (.int ((cntD ns ms (x - y) + ((ns.take i).map fun z => ms.countP fun v => decide (z - v = x - y)).sum + (ms.take j).countP fun v => decide (x - v = x - y) : Nat) : Int)) H'
theorem cut_take (xs : List V) (k : Nat) : cutV xs none (some (k : Int)) = xs.take k := by
  unfold cutV
  rw [HT.sIx_nat, HT.sIx_none, List.drop_zero, Nat.sub_zero]
  by_cases h : k ≤ xs.length
  · rw [Nat.min_eq_left h]
  · rw [Nat.min_eq_right (by omega), List.take_of_length_le (Nat.le_refl _), List.take_of_length_le (by omega)]
def spRight22 (K : PySem.W.Frag) : L2.Sp := fun vs H Q _ => ∃ (p q : Addr) (ns ms : List Int) (n : Nat), vs = [.ref p, .ref q, .int (n : Int)] ∧ SqL K H p (ns.map V.int) ∧ SqL K H q (ms.map V.int) ∧ ns.Pairwise (· ≤ ·) ∧ ms.Pairwise (· ≤ ·) ∧ ns.length ≤ 300 ∧ ms.length ≤ 300 ∧ n < ns.length * ms.length ∧
  ∀ H', Same H H' → Q (.bl true) H'
theorem negs_at {ms : List Int} {j : Nat} {y : Int} (h : (negs ms)[j]? = some y) : ms[j]? = some (0 - y) := by
  unfold negs at h
  rw [List.getElem?_map] at h
  cases e : ms[j]? with
  | none => rw [e] at h; cases h
  | some z =>
    rw [e] at h
    obtain rfl : 0 - z = y := Option.some.inj h
    rw [show 0 - (0 - z) = z from by omega]
theorem negs_cnt (x n : Int) : ∀ ms : List Int, cntB (negs ms) (n - x) = ms.countP fun v => decide (x - v < n)
  | [] => rfl
  | y :: ms => by
    show cntB ((0 - y) :: negs ms) (n - x) = _
    rw [cntB_cons, negs_cnt x n ms, List.countP_cons]
    by_cases h : x - y < n
    · rw [if_pos (by omega), if_pos (by simpa using h)]
    · rw [if_neg (by omega), if_neg (by simpa using h)]
theorem negs_cntS (ms : List Int) (n : Int) : ∀ ns : List Int, cntS ns (negs ms) n = cntD ns ms n
  | [] => rfl
  | x :: ns => by
    rw [cntS_cons, negs_cnt, negs_cntS ms n ns]
    rfl
theorem negs_count (z n : Int) : ∀ ms : List Int, (negs ms).count (n - z) = ms.countP fun v => decide (z - v = n)
  | [] => rfl
  | y :: ms => by
    show ((0 - y) :: negs ms).count (n - z) = _
    rw [List.count_cons, negs_count z n ms, List.countP_cons]
    by_cases h : z - y = n
    · rw [if_pos (by simp; omega), if_pos (by simpa using h)]
    · rw [if_neg (by simp; omega), if_neg (by simpa using h)]
theorem negs_take (ms : List Int) (j : Nat) : (negs ms).take j = negs (ms.take j) := List.map_take.symm
theorem negs_len (ms : List Int) : (negs ms).length = ms.length := List.length_map _
/-- the place of a difference, by the law's own count -/
theorem diff_at {ns ms : List Int} {L : List Tri.T3} (o : Tri.Ord ns (negs ms) L) {n : Nat} {w : Tri.T3} (h : L[n]? = some w) :
    ∃ (i j : Nat) (x y : Int), ns[i]? = some x ∧ ms[j]? = some y ∧ w = (x - y, (i : Int), (j : Int)) ∧ n = cntD ns ms (x - y) + ((ns.take i).map fun z => ms.countP fun v => decide (z - v = x - y)).sum + (ms.take j).countP fun v => decide (x - v = x - y) := by
  obtain ⟨i, j, x, y, hx, hy, hw, hn⟩ := ord_at o h
  refine ⟨i, j, x, 0 - y, hx, negs_at hy, by rw [hw, show x - (0 - y) = x + y from by omega], ?_⟩
  rw [show x - (0 - y) = x + y from by omega, hn, negs_cntS, negs_take]
  have e1 : (negs (ms.take j)).count y = (ms.take j).countP fun v => decide (x - v = x + y) := by
    have := negs_count x (x + y) (ms.take j)
    rw [show x + y - x = y from by omega] at this
    exact this
  have e2 : (fun z => (negs ms).count (x + y - z)) = fun z => ms.countP fun v => decide (z - v = x + y) := funext fun z => negs_count z (x + y) ms
  rw [e1, e2]
end Sp

namespace Sp
open PySem L2 LamX Tri
/-! ### heaps where tables of code objects may grow -/
def NT : HO → Prop
  | .tbl _ => False
  | _ => True
theorem NT.ne {o : HO} (h : NT o) : ∀ ps, o ≠ .tbl ps := fun ps e => by
  subst e
  exact h
theorem nt_of {o : HO} (h : ∀ ps, o ≠ .tbl ps) : NT o := by
  cases o <;> first | exact trivial | exact absurd rfl (h _)
/-- all but the tables stays; the tables stay tables -/
structure Nx (T : List (Addr × Str)) (H H' : Hp) : Prop where
  of : ∀ b o, H b = some o → NT o → H' b = some o
  tabs : Tabs T H → Tabs T H'
section
variable {T : List (Addr × Str)} {K : PySem.W.Frag} {H H' H1 H2 : Hp} {a p : Addr} {ns : List Int} {xs : List V}
theorem Nx.g (n : Nx T H H') {b : Addr} {o : HO} (h : H b = some o) (t : NT o := by trivial) : H' b = some o := n.of b o h t
theorem Nx.refl : Nx T H H := ⟨fun _ _ h _ => h, fun h => h⟩
theorem Nx.trans (n : Nx T H H1) (m : Nx T H1 H2) : Nx T H H2 := ⟨fun b o h t => m.of b o (n.of b o h t) t, fun h => m.tabs (n.tabs h)⟩
theorem Nx.same (s : Same H H') : Nx T H H' := ⟨fun b o h _ => s b o h, fun h => h.ext s⟩
theorem Nx.mk2 (e : ExtN H H') (t : Tabs T H') : Nx T H H' := ⟨fun b o h n => e b o h n.ne, fun _ => t⟩
theorem Nx.seq (n : Nx T H H') (h : SqL K H p xs) : SqL K H' p xs := by
  rcases h with (h | ⟨o, h⟩) | h
  · exact .inl (.inl (n.g h))
  · exact .inl (.inr ⟨o, n.g h⟩)
  · exact .inr h
theorem Nx.row (n : Nx T H H') (r : RowAt H a p ns) : RowAt H' a p ns := ⟨n.g r.at_, r.ne, r.fine, r.len⟩
theorem Nx.nums (n : Nx T H H') (r : Nums H a p ns) : Nums H' a p ns := ⟨n.g r.1, r.2⟩
theorem Nx.hand (n : Nx T H H') (h : HandAt H a) : HandAt H' a := by
  obtain ⟨x, y, e, r⟩ := h
  exact ⟨x, y, n.g e, r⟩
theorem Nx.trip {ts : List Addr} {L : List T3} (n : Nx T H H') (t : Trip H ts L) : Trip H' ts L := ⟨t.len, fun j b x h1 h2 => n.g (t.at_ j b x h1 h2)⟩
/-- the same, the hand apart -/
structure Ex (T : List (Addr × Str)) (a : Addr) (H H' : Hp) : Prop where
  of : ∀ b o, H b = some o → NT o → b ≠ a → H' b = some o
  hand : HandAt H a → HandAt H' a
  tabs : Tabs T H → Tabs T H'
theorem Ex.nx (n : Nx T H H') : Ex T a H H' := ⟨fun b o h t _ => n.of b o h t, n.hand, n.tabs⟩
theorem Ex.same (s : Same H H') : Ex T a H H' := .nx (.same s)
theorem tabs_hand (h : HandAt H a) (e : Ext a H H') (t : Tabs T H) : Tabs T H' := fun q hq => by
  obtain ⟨x, y, e0, _⟩ := h
  obtain ⟨ps, h1, h2, h3⟩ := t q hq
  refine ⟨ps, e.keep _ _ h1 (fun z => ?_), h2, fun pos cv hc => ?_⟩
  · rw [z, e0] at h1
    cases h1
  · obtain ⟨c, c1, c2⟩ := h3 pos cv hc
    refine ⟨c, c1, e.keep _ _ c2 fun z => ?_⟩
    rw [z, e0] at c2
    unfold CodeO at c2
    cases c2
theorem Ex.ext (e : Ext a H H') (h : HandAt H a) : Ex T a H H' := ⟨fun b o q _ n => e.keep b o q n, e.hand, tabs_hand h e⟩
theorem Ex.trans (e : Ex T a H H1) (f : Ex T a H1 H2) : Ex T a H H2 := ⟨fun b o h t n => f.of b o (e.of b o h t n) t n, fun h => f.hand (e.hand h), fun h => f.tabs (e.tabs h)⟩
theorem Ex.made (e : Ex T a H H') (n : H a = none) : Nx T H H' := ⟨fun b o h t => e.of b o h t (fun z => by rw [z, n] at h; cases h), e.tabs⟩
end
/-! ### the search, spans, pairs -/
def spCheck : L2.Sp := fun vs H Q _ => ∃ n m : Int, vs = [.int n, .int m] ∧ 0 ≤ n ∧ n < m ∧ Q .non H
def spBare (K : PySem.W.Frag) (T : List (Addr × Str)) : L2.Sp := fun vs H Q _ => ∃ (p q : Addr) (ns ms : List Int) (n : Nat), vs = [.ref p, .ref q, .int (n : Int)] ∧ SqL K H p (ns.map V.int) ∧ SqL K H q (ms.map V.int) ∧ ns.Pairwise (· ≤ ·) ∧ ms.Pairwise (· ≤ ·) ∧ n < ns.length * ms.length ∧ Tabs T H ∧
  ∀ (r : Int) (H' : Hp), Nx T H H' → cntS ns ms r ≤ n → n < cntS ns ms (r + 1) → Q (.int r) H'
def spSpan (K : PySem.W.Frag) : L2.Sp := fun vs H Q _ => ∃ (p : Addr) (ns : List Int) (n : Int), vs = [.ref p, .int n] ∧ SqL K H p (ns.map V.int) ∧ ns.Pairwise (· ≤ ·) ∧
  ∀ t, H t = none → Q (.ref t) (upd H t (.tup [.int (cntB ns n : Nat), .int (cntB ns (n + 1) : Nat)]))
/-- spans: where each begins and how long it is -/
structure Spn (H : Hp) (ts : List Addr) (ws : List (Nat × Nat)) : Prop where
  len : ts.length = ws.length
  at_ : ∀ (i : Nat) (t : Addr) (b c : Nat), ts[i]? = some t → ws[i]? = some (b, c) → H t = some (.tup [.int (b : Int), .int ((b : Int) + (c : Int))])
theorem Spn.up {H H' : Hp} {ts : List Addr} {ws : List (Nat × Nat)} (s : Spn H ts ws) (k : Same H H') : Spn H' ts ws := ⟨s.len, fun i t b c h1 h2 => k _ _ (s.at_ i t b c h1 h2)⟩
abbrev lenOf (ws : List (Nat × Nat)) : Nat := (ws.map (·.2)).sum
def spPairAt (K : PySem.W.Frag) : L2.Sp := fun vs H Q _ => ∃ (p : Addr) (ts : List Addr) (ws : List (Nat × Nat)) (n : Nat), vs = [.ref p, .int (n : Int)] ∧ SqL K H p (ts.map V.ref) ∧ Spn H ts ws ∧ n < lenOf ws ∧
  ∀ (i b c k : Nat), ws[i]? = some (b, c) → k < c → n = lenOf (ws.take i) + k → ∀ t, H t = none → Q (.ref t) (upd H t (.tup [.int (i : Int), .int ((b : Int) + (k : Int))]))
theorem lenOf_cons (w : Nat × Nat) (ws : List (Nat × Nat)) : lenOf (w :: ws) = w.2 + lenOf ws := by
  show (List.map _ (w :: ws)).sum = _
  rw [List.map_cons, List.sum_cons]
theorem lenOf_append (us ws : List (Nat × Nat)) : lenOf (us ++ ws) = lenOf us + lenOf ws := by
  show (List.map _ (us ++ ws)).sum = _
  rw [List.map_append, List.sum_append]
theorem lenOf_take {ws : List (Nat × Nat)} {i b c : Nat} (h : ws[i]? = some (b, c)) : lenOf (ws.take (i + 1)) = lenOf (ws.take i) + c := by
  rw [take_snoc h, lenOf_append]
  rfl
theorem lenOf_le (ws : List (Nat × Nat)) (i : Nat) : lenOf (ws.take i) ≤ lenOf ws := by
  have h := congrArg lenOf (List.take_append_drop i ws)
  rw [lenOf_append] at h
  omega
/-! ### counts -/
theorem cntB_none {ms : List Int} {n : Int} (h : ∀ y ∈ ms, n ≤ y) : cntB ms n = 0 := by
  unfold cntB
  rw [List.countP_eq_zero]
  intro y hy
  have := h y hy
  simp
  omega
theorem cntS_none {ns ms : List Int} {n : Int} (h : ∀ x ∈ ns, ∀ y ∈ ms, n ≤ x + y) : cntS ns ms n = 0 := by
  induction ns with
  | nil => rfl
  | cons x ns ih =>
    rw [cntS_cons, ih fun z hz => h z (List.mem_cons_of_mem _ hz), cntB_none fun y hy => by have := h x List.mem_cons_self y hy; omega]
theorem cntS_next (ms : List Int) (n : Int) : ∀ ns : List Int, cntS ns ms (n + 1) = cntS ns ms n + (ns.map fun z => ms.count (n - z)).sum
  | [] => rfl
  | x :: ns => by
    rw [cntS_cons, cntS_cons, cntS_next ms n ns, show n + 1 - x = n - x + 1 from by omega, cntB_next, List.map_cons, List.sum_cons]
    omega
/-- the k-th of the likes of v in a sorted row stands at so many below v, and k more -/
theorem like_at {ms : List Int} (hs : ms.Pairwise (· ≤ ·)) {v : Int} {k : Nat} (h : k < ms.count v) : ms[cntB ms v + k]? = some v ∧ (ms.take (cntB ms v + k)).count v = k := by
  have hn := cntB_next ms v
  have le := cntB_le ms (v + 1)
  have lt : cntB ms v + k < ms.length := by omega
  have at_ : ∀ j, cntB ms v ≤ j → j < cntB ms v + ms.count v → ms[j]? = some v := fun j h1 h2 => by
    obtain ⟨y, hy⟩ : ∃ y, ms[j]? = some y := ⟨_, List.getElem?_eq_getElem (by omega)⟩
    have k1 := cntB_lt (n := v) hs hy
    have k2 := cntB_lt (n := v + 1) hs hy
    have k3 : ¬ y < v := fun z => by have := k1.mp z; omega
    have k4 : y < v + 1 := k2.mpr (by omega)
    rw [hy, show y = v from by omega]
  refine ⟨at_ _ (by omega) (by omega), ?_⟩
  have low : (ms.take (cntB ms v)).count v = 0 := by
    rw [List.count_eq_zero]
    intro m
    obtain ⟨j, hj⟩ := List.mem_iff_getElem?.mp m
    rw [List.getElem?_take] at hj
    split at hj
    · rename_i c
      have := (cntB_lt (n := v) hs hj).mpr c
      omega
    · cases hj
  have step : ∀ j, j ≤ k → (ms.take (cntB ms v + j)).count v = j := by
    intro j
    induction j with
    | zero => intro _; exact low
    | succ j ih =>
      intro hj
      rw [show cntB ms v + (j + 1) = (cntB ms v + j) + 1 from by omega, take_snoc (at_ (cntB ms v + j) (by omega) (by omega)), List.count_append, ih (by omega)]
      simp
  exact step k (Nat.le_refl _)
/-- the so-manieth pair -/
def spSumT (K : PySem.W.Frag) (T : List (Addr × Str)) : L2.Sp := fun vs H Q _ => ∃ (p q : Addr) (ns ms : List Int) (n : Nat) (L : List T3) (w : T3), vs = [.ref p, .ref q, .int (n : Int)] ∧ SqL K H p (ns.map V.int) ∧ SqL K H q (ms.map V.int) ∧ ns.Pairwise (· ≤ ·) ∧ ms.Pairwise (· ≤ ·) ∧ ns.length ≤ 1000 ∧ ms.length ≤ 1000 ∧ Tabs T H ∧
  Tri.Ord ns ms L ∧ L[n]? = some w ∧ ∀ (t : Addr) (H' : Hp), Nx T H H' → H' t = some (.tup (tri w)) → Q (.ref t) H'
/-- from the search and the spans to what stands at a place -/
theorem sum_found {ns ms : List Int} {L : List T3} (o : Tri.Ord ns ms L) (sm : ms.Pairwise (· ≤ ·)) {n : Nat} {r : Int} {i k : Nat} {x : Int} (hx : ns[i]? = some x) (hk : k < ms.count (r - x)) (hn : n = cntS ns ms r + (((ns.take i).map fun z => ms.count (r - z)).sum + k)) :
    L[n]? = some (r, (i : Int), ((cntB ms (r - x) + k : Nat) : Int)) := by
  obtain ⟨h1, h2⟩ := like_at sm hk
  have := o.place hx h1
  rw [show x + (r - x) = r from by omega, h2] at this
  rw [hn]
  rw [show cntS ns ms r + (((ns.take i).map fun z => ms.count (r - z)).sum + k) = cntS ns ms r + ((ns.take i).map fun z => ms.count (r - z)).sum + k from by omega]
  exact this
/-- the law's head: the script, and the tables -/
def spLawT (K : PySem.W.Frag) (T : List (Addr × Str)) : L2.Sp := fun vs H Q _ => ∃ (a : Addr) (ns : List Int), vs = [.ref a] ∧ SqL K H a (ns.map V.int) ∧ ns.length ≤ 63 ∧ Tabs T H ∧ ∀ H', Q (.bl true) H'
end Sp
namespace Sp
open PySem L2 LamX Tri
/-! ### differences -/
theorem negs_count2 (v : Int) : ∀ ms : List Int, (negs ms).count (0 - v) = ms.count v
  | [] => rfl
  | y :: ms => by
    show ((0 - y) :: negs ms).count (0 - v) = _
    rw [List.count_cons, List.count_cons, negs_count2 v ms]
    by_cases h : y = v
    · rw [if_pos (by simp [h]), if_pos (by simp [h])]
    · rw [if_neg (by simp; omega), if_neg (by simpa using h)]
theorem diff_found {ns ms : List Int} {L : List T3} (o : Tri.Ord ns (negs ms) L) (sm : ms.Pairwise (· ≤ ·)) {n : Nat} {r : Int} {i k : Nat} {x : Int} (hx : ns[i]? = some x) (hk : k < ms.count (x - r)) (hn : n = cntD ns ms r + (((ns.take i).map fun z => ms.count (z - r)).sum + k)) :
    L[n]? = some (r, (i : Int), ((cntB ms (x - r) + k : Nat) : Int)) := by
  obtain ⟨h1, h2⟩ := like_at sm hk
  have h3 : (negs ms)[cntB ms (x - r) + k]? = some (0 - (x - r)) := by
    unfold negs
    rw [List.getElem?_map, h1]
    rfl
  have := o.place hx h3
  rw [show x + (0 - (x - r)) = r from by omega, negs_take, negs_count2, h2, negs_cntS] at this
  have e : (fun z => (negs ms).count (r - z)) = fun z => ms.count (z - r) := funext fun z => by rw [show r - z = 0 - (z - r) from by omega, negs_count2]
  rw [e] at this
  rw [hn, ← Nat.add_assoc]
  exact this
theorem cntD_next (ms : List Int) (n : Int) (ns : List Int) : cntD ns ms (n + 1) = cntD ns ms n + (ns.map fun z => ms.count (z - n)).sum := by
  have h := cntS_next (negs ms) n ns
  rw [negs_cntS, negs_cntS] at h
  have e : (fun z => (negs ms).count (n - z)) = fun z => ms.count (z - n) := funext fun z => by rw [show n - z = 0 - (z - n) from by omega, negs_count2]
  rw [e] at h
  exact h
def spDiffT (K : PySem.W.Frag) (T : List (Addr × Str)) : L2.Sp := fun vs H Q _ => ∃ (p q : Addr) (ns ms : List Int) (n : Nat) (L : List T3) (w : T3), vs = [.ref p, .ref q, .int (n : Int)] ∧ SqL K H p (ns.map V.int) ∧ SqL K H q (ms.map V.int) ∧ ns.Pairwise (· ≤ ·) ∧ ms.Pairwise (· ≤ ·) ∧ ns.length ≤ 1000 ∧ ms.length ≤ 1000 ∧ Tabs T H ∧
  Tri.Ord ns (negs ms) L ∧ L[n]? = some w ∧ ∀ (t : Addr) (H' : Hp), Nx T H H' → H' t = some (.tup (tri w)) → Q (.ref t) H'
def spRight22T (K : PySem.W.Frag) (T : List (Addr × Str)) : L2.Sp := fun vs H Q _ => ∃ (p q : Addr) (ns ms : List Int) (n : Nat), vs = [.ref p, .ref q, .int (n : Int)] ∧ SqL K H p (ns.map V.int) ∧ SqL K H q (ms.map V.int) ∧ ns.Pairwise (· ≤ ·) ∧ ms.Pairwise (· ≤ ·) ∧ ns.length ≤ 300 ∧ ms.length ≤ 300 ∧ n < ns.length * ms.length ∧ Tabs T H ∧
  ∀ H', Nx T H H' → Q (.bl true) H'
theorem turned_cntS (ms : List Int) (n : Int) (ns : List Int) : cntS ns (turned ms) n = cntD ns ms n := by
  have h : (turned ms).Perm (negs ms) := (List.reverse_perm ms).map _
  rw [← cntS_comm, cntS_perm h, cntS_comm, negs_cntS]
theorem turned_len (ms : List Int) : (turned ms).length = ms.length := by
  unfold turned
  rw [List.length_map, List.length_reverse]
end Sp

namespace Sp
open PySem L2 LamX Tri
/-! ### planted rows -/
theorem perm_of {α : Type} [BEq α] [LawfulBEq α] : ∀ {l1 l2 : List α}, l1.Nodup → (∀ x ∈ l1, x ∈ l2) → l2.length ≤ l1.length → l1.Perm l2
  | [], l2, _, _, h => by rw [List.length_eq_zero_iff.mp (Nat.le_zero.mp h)]
  | x :: l1, l2, nd, sub, h => by
    obtain ⟨n1, n2⟩ := List.nodup_cons.mp nd
    have m := sub x List.mem_cons_self
    have p := List.perm_cons_erase m
    have le := p.length_eq
    rw [List.length_cons] at le h
    refine (List.Perm.cons x (perm_of n2 (fun y hy => ?_) (by omega))).trans p.symm
    exact (List.mem_erase_of_ne (fun e => n1 (by rw [← e]; exact hy))).mpr (sub y (List.mem_cons_of_mem _ hy))
theorem stepped_at {b s : Int} {m i : Nat} (h : i < m) : (stepped b s m)[i]? = some (b + s * (i : Int)) := by
  unfold stepped
  rw [List.getElem?_map, List.getElem?_range h]
  rfl
theorem rep_stepped (b : Int) (m : Nat) : List.replicate m b = stepped b 0 m := by
  induction m with
  | zero => rfl
  | succ m ih => rw [stepped_succ, ← ih, List.replicate_succ', Int.zero_mul, Int.add_zero]
def stepA (kind b : Nat) (s : Int) : Int := if kind = 0 then s else if kind = 1 then s * (b : Int) else 0
def stepB (kind a : Nat) (s : Int) : Int := if kind = 0 then s * (a : Int) else if kind = 2 then 0 else s
def rowA (kind a b : Nat) (s g : Int) : List Int := stepped g (stepA kind b s) a
def rowB (kind a b : Nat) (s h : Int) : List Int := stepped h (stepB kind a s) b
def dueP (kind a b : Nat) (s g : Int) (p : Nat) : T3 :=
  if kind = 0 then (g + s * (p : Int), ((p % a : Nat) : Int), ((p / a : Nat) : Int)) else if kind = 1 then (g + s * (p : Int), ((p / b : Nat) : Int), ((p % b : Nat) : Int)) else if kind = 2 then (g, ((p / b : Nat) : Int), ((p % b : Nat) : Int)) else (g + s * ((p / a : Nat) : Int), ((p % a : Nat) : Int), ((p / a : Nat) : Int))
theorem split_a (s : Int) (a p : Nat) : s * ((p % a : Nat) : Int) + s * (a : Int) * ((p / a : Nat) : Int) = s * (p : Int) := by
  rw [Int.mul_assoc, ← Int.mul_add]
  congr 1
  have := Nat.mod_add_div p a
  rw [← Int.natCast_mul, ← Int.natCast_add, this]
theorem div_lt' {a b p : Nat} (h : p < a * b) : p / a < b := Nat.div_lt_of_lt_mul h
theorem div_mod_inj {a p q : Nat} (h1 : p / a = q / a) (h2 : p % a = q % a) : p = q := by
  have e1 := Nat.mod_add_div p a
  have e2 := Nat.mod_add_div q a
  rw [h1, h2] at e1
  omega
theorem div_mod_lt {a p q : Nat} (h : p < q) : p / a < q / a ∨ (p / a = q / a ∧ p % a < q % a) := by
  have h1 := Nat.div_le_div_right (c := a) (Nat.le_of_lt h)
  rcases Nat.lt_or_eq_of_le h1 with c | c
  · exact .inl c
  · have e1 := Nat.mod_add_div p a
    have e2 := Nat.mod_add_div q a
    rw [c] at e1
    exact .inr ⟨c, by omega⟩
theorem planted {kind a b : Nat} {s g h : Int} (hk : kind < 4) (ha : 0 < a) (hb : 0 < b) (hs : 0 < s) : Ord (rowA kind a b s g) (rowB kind a b s h) ((List.range (a * b)).map (dueP kind a b s (g + h))) := by
  have mono : ∀ {x y : Int}, x < y → s * x < s * y := fun {x y} z => Int.mul_lt_mul_of_pos_left z hs
  have put : ∀ (i j : Nat), i < a → j < b → (g + h + stepA kind b s * (i : Int) + stepB kind a s * (j : Int), (i : Int), (j : Int)) ∈ allP (rowA kind a b s g) 0 (rowB kind a b s h) := fun i j hi hj =>
    allP_mem.mpr ⟨i, j, _, _, stepped_at hi, stepped_at hj, by rw [Nat.zero_add]; congr 1; omega⟩
  have mem : ∀ p, p < a * b → dueP kind a b s (g + h) p ∈ allP (rowA kind a b s g) 0 (rowB kind a b s h) := fun p hp => by
    have hp2 : p < b * a := by rw [Nat.mul_comm]; exact hp
    have m1 := Nat.mod_lt p ha
    have m2 := Nat.mod_lt p hb
    have d1 := div_lt' hp
    have d2 := div_lt' hp2
    have sa := split_a s a p
    have sb := split_a s b p
    obtain rfl | rfl | rfl | rfl : kind = 0 ∨ kind = 1 ∨ kind = 2 ∨ kind = 3 := by omega
    · have e := put (p % a) (p / a) m1 d1
      rw [show g + h + stepA 0 b s * ((p % a : Nat) : Int) + stepB 0 a s * ((p / a : Nat) : Int) = g + h + s * (p : Int) from by
        show g + h + s * ((p % a : Nat) : Int) + s * (a : Int) * ((p / a : Nat) : Int) = _
        omega] at e
      exact e
    · have e := put (p / b) (p % b) d2 m2
      rw [show g + h + stepA 1 b s * ((p / b : Nat) : Int) + stepB 1 a s * ((p % b : Nat) : Int) = g + h + s * (p : Int) from by
        show g + h + s * (b : Int) * ((p / b : Nat) : Int) + s * ((p % b : Nat) : Int) = _
        omega] at e
      exact e
    · have e := put (p / b) (p % b) d2 m2
      rw [show g + h + stepA 2 b s * ((p / b : Nat) : Int) + stepB 2 a s * ((p % b : Nat) : Int) = g + h from by
        show g + h + 0 * ((p / b : Nat) : Int) + 0 * ((p % b : Nat) : Int) = _
        omega] at e
      exact e
    · have e := put (p % a) (p / a) m1 d1
      rw [show g + h + stepA 3 b s * ((p % a : Nat) : Int) + stepB 3 a s * ((p / a : Nat) : Int) = g + h + s * ((p / a : Nat) : Int) from by
        show g + h + 0 * ((p % a : Nat) : Int) + s * ((p / a : Nat) : Int) = _
        omega] at e
      exact e
  have inj : ∀ p q, dueP kind a b s (g + h) p = dueP kind a b s (g + h) q → p = q := fun p q e => by
    obtain rfl | rfl | rfl | rfl : kind = 0 ∨ kind = 1 ∨ kind = 2 ∨ kind = 3 := by omega
    all_goals
      have e2 := congrArg (fun t : T3 => t.2.1) e
      have e3 := congrArg (fun t : T3 => t.2.2) e
    · exact div_mod_inj (Int.ofNat.inj e3) (Int.ofNat.inj e2)
    · exact div_mod_inj (Int.ofNat.inj e2) (Int.ofNat.inj e3)
    · exact div_mod_inj (Int.ofNat.inj e2) (Int.ofNat.inj e3)
    · exact div_mod_inj (Int.ofNat.inj e3) (Int.ofNat.inj e2)
  refine ⟨perm_of ?_ (fun x hx => ?_) ?_, ?_⟩
  · refine List.pairwise_map.mpr (List.nodup_range.imp fun {p q} ne e => ne (inj p q e))
  · obtain ⟨p, hp, rfl⟩ := List.mem_map.mp hx
    exact mem p (List.mem_range.mp hp)
  · rw [allP_len, List.length_map, List.length_range]
    unfold rowA rowB
    rw [stepped_len, stepped_len]
    exact Nat.le_refl _
  · refine List.pairwise_map.mpr (List.pairwise_lt_range.imp fun {p q} lt => ?_)
    have lt' : (p : Int) < (q : Int) := by omega
    have m0 := mono lt'
    unfold before
    obtain rfl | rfl | rfl | rfl : kind = 0 ∨ kind = 1 ∨ kind = 2 ∨ kind = 3 := by omega
    · show ¬ (g + h + s * (q : Int) < g + h + s * (p : Int) ∨ (g + h + s * (q : Int) = g + h + s * (p : Int) ∧ _))
      omega
    · show ¬ (g + h + s * (q : Int) < g + h + s * (p : Int) ∨ (g + h + s * (q : Int) = g + h + s * (p : Int) ∧ _))
      omega
    · show ¬ (g + h < g + h ∨ (g + h = g + h ∧ (((q / b : Nat) : Int) < ((p / b : Nat) : Int) ∨ (((q / b : Nat) : Int) = ((p / b : Nat) : Int) ∧ ((q % b : Nat) : Int) < ((p % b : Nat) : Int)))))
      have := div_mod_lt (a := b) lt
      omega
    · show ¬ (g + h + s * ((q / a : Nat) : Int) < g + h + s * ((p / a : Nat) : Int) ∨ (g + h + s * ((q / a : Nat) : Int) = g + h + s * ((p / a : Nat) : Int) ∧ (((q % a : Nat) : Int) < ((p % a : Nat) : Int) ∨ (((q % a : Nat) : Int) = ((p % a : Nat) : Int) ∧ ((q / a : Nat) : Int) < ((p / a : Nat) : Int)))))
      rcases div_mod_lt (a := a) lt with c | ⟨c, c2⟩
      · have := mono (show ((p / a : Nat) : Int) < ((q / a : Nat) : Int) by omega)
        omega
      · rw [c]
        omega
theorem rowA_sorted {kind a b : Nat} {s g : Int} (hs : 0 < s) : (rowA kind a b s g).Pairwise (· ≤ ·) := by
  refine stepped_sorted ?_ _
  unfold stepA
  split
  · omega
  · split
    · exact Int.mul_nonneg (by omega) (by omega)
    · omega
theorem rowB_sorted {kind a b : Nat} {s g : Int} (hs : 0 < s) : (rowB kind a b s g).Pairwise (· ≤ ·) := by
  refine stepped_sorted ?_ _
  unfold stepB
  split
  · exact Int.mul_nonneg (by omega) (by omega)
  · split <;> omega
theorem rowA_len (kind a b : Nat) (s g : Int) : (rowA kind a b s g).length = a := stepped_len _ _ _
theorem rowB_len (kind a b : Nat) (s g : Int) : (rowB kind a b s g).length = b := stepped_len _ _ _
def spMidT (K : PySem.W.Frag) (T : List (Addr × Str)) : L2.Sp := fun vs H Q _ => ∃ (p q : Addr) (ns ms : List Int) (L : List T3) (w : T3), vs = [.ref p, .ref q] ∧ SqL K H p (ns.map V.int) ∧ SqL K H q (ms.map V.int) ∧ ns.Pairwise (· ≤ ·) ∧ ms.Pairwise (· ≤ ·) ∧ ns.length ≤ 1000 ∧ ms.length ≤ 1000 ∧ Tabs T H ∧
  Tri.Ord ns ms L ∧ L[ns.length * ms.length / 2]? = some w ∧ ∀ (t : Addr) (H' : Hp), Nx T H H' → H' t = some (.tup (tri w)) → Q (.ref t) H'
def spDue12 (K : PySem.W.Frag) : L2.Sp := fun vs H Q _ => ∃ (m : Addr) (kind a b p : Nat) (s g : Int), vs = [.int (kind : Int), .ref m, .int s, .int g, .int (p : Int)] ∧ H m = some (.tup [.int (a : Int), .int (b : Int)]) ∧ kind < 4 ∧ 0 < a ∧ a ≤ 300 ∧ 0 < b ∧ b ≤ 300 ∧ p < 90000 ∧ 0 < s ∧ s ≤ 1000000001 ∧
  ∀ t, H t = none → Q (.ref t) (upd H t (.tup (tri (dueP kind a b s g p))))
def spRows12 : L2.Sp := fun vs H Q _ => ∃ (m : Addr) (kind a b : Nat) (s g h : Int), vs = [.int (kind : Int), .ref m, .int s, .int g, .int h] ∧ H m = some (.tup [.int (a : Int), .int (b : Int)]) ∧ kind < 4 ∧ 0 < a ∧ a ≤ 300 ∧ 0 < b ∧ b ≤ 300 ∧ 0 < s ∧ s ≤ 1000000001 ∧
  ∀ (t p q : Addr) (H' : Hp), Same H H' → H p = none → H q = none → H t = none → H' t = some (.tup [.ref p, .ref q]) → H' p = some (.lst ((rowA kind a b s g).map V.int)) → H' q = some (.lst ((rowB kind a b s h).map V.int)) → Q (.ref t) H'
end Sp

/-! an exception that is caught and kept by a name. -/
namespace Xc
open PySem PySem.Spec PyProof.Rows L2
/-- the object at a is an exception of the class cls -/
def ExK (cls : Value) (a : Addr) : HO := .ext fun h => ∃ (oe : Obj) (vs : Array Value), h.get? a = some oe ∧ Zc cls none oe ∧ oe.data = .fields vs
section
variable {X : Cx} {pins : List (Addr × Obj)} {σ : L2.St} {H : Hp} {s : Shared}
/-- a pinned exception is tracked from now on -/
theorem tracked {a : Addr} {oe : Obj} {vs : Array Value} {cls : Value} (I : Inv X ((a, oe) :: pins) σ H s) (z : Zc cls none oe) (dd : oe.data = .fields vs) (new : X.s_0.heap.get? a = none) (apart : ∀ p ∈ X.pn ++ pins, p.1 ≠ a) : Inv X pins σ (upd H a (ExK cls a)) s := by
  obtain ⟨at_, off, nl, nf, nc⟩ := I.pin (a, oe) (List.mem_append_right _ List.mem_cons_self)
  have old : ∀ b o, X.s_0.heap.get? b = some o → b ≠ a := fun b o e q => by
    rw [q, new] at e
    cases e
  have seen : ∀ {b o}, H b = some o → upd H a (ExK cls a) b = some o := fun {b o} e => by
    rw [upd_ne (fun q => by rw [q, off] at e; cases e)]
    exact e
  refine ⟨I.ok, I.os, I.bare, ⟨I.base.keep, I.base.slot, fun b o e n x => ?_, I.base.there, fun b xs e => seen (I.base.tups b xs e), fun b o u e => seen (I.base.frzs b o u e), fun b ps e => ?_⟩, I.loc, I.cell, ?_, fun y c e => ?_, fun p hp => ?_, fun b u e => ?_, I.len⟩
  · rw [upd_ne (old b o e)]
    exact I.base.free b o e n x
  · obtain ⟨m, q⟩ := I.base.tbls b ps e
    exact ⟨m, seen q⟩
  · rw [upd_ne nl.symm]
    exact I.free
  · obtain ⟨v, o, ho, hd⟩ := I.cell y c e
    rw [upd_ne (fun q => by rw [q, at_] at ho; cases ho; rw [dd] at hd; cases hd)]
    exact I.freeC y c e
  · have hp2 : p ∈ X.pn ++ (a, oe) :: pins := by
      rcases List.mem_append.mp hp with m | m
      · exact List.mem_append_left _ m
      · exact List.mem_append_right _ (List.mem_cons_of_mem _ m)
    obtain ⟨q1, q2, q3⟩ := I.pin p hp2
    exact ⟨q1, by rw [upd_ne (apart p hp)]; exact q2, q3⟩
  · by_cases c : b = a
    · subst c
      rw [upd_same] at e
      cases e
      exact ⟨⟨oe, vs, at_, z, dd⟩, ⟨oe, at_⟩, fun h1 h2 ⟨o1, v1, e1, z1, d1⟩ st => ⟨o1, v1, st _ e1, z1, d1⟩⟩
    · rw [upd_ne c] at e
      exact (I.hok b u e).stay (fun _ _ _ q => q) (fun _ q => seen q) fun _ _ q => seen q
end
/-- what the clause «except x as n: m = n» wishes: it always catches; the slot j holds the exception -/
def wKeep (K : PySem.W.Frag) (c : Value) (i j : Nat) (D : Ends) : WX := fun cls d σ H => d = none ∧ PySem.W.exmOne K cls c = some true ∧ ∀ a, H a = none → D.nx ((σ.set j (some (.ref a))).set i none) (upd H a (ExK cls a))
section
variable {X : Cx} {x n : Str} {c : Value} {i j : Nat} {body : List Stmt} {b₀ : Stmt} {np pos pos' : Pos} {tb : WX → TS}
theorem ps_try_keep (st : X.stack = X.env :: X.outer) (fr : X.env.frame = some X.env.locals) (nd : X.N.Nodup) (ix : X.N[i]? = some n) (lo : X.env.kindOf n = some .local) (nm : Names X x c) (ji : i ≠ j) (noex : X.ex = [])
    (run : ∀ (W : WX) (pn : List (Addr × Obj)) (xe : Value → Shared → Prop), Takes (X.tr pn xe) W → PassesOwn (model X.prog X.w) X.A X.env xe → PSs (X.tr pn xe) body (tb W))
    (keep : ∀ (a : Addr) (pn : List (Addr × Obj)), PSs (X.suite a pn) [b₀] (fun D σ H => ∃ v, σ[i]? = some (some v) ∧ D.nx (σ.set j (some v)) H)) :
    PS X (.Try body [.ExceptHandler (some (.Name x np)) (some n) [b₀] pos'] [] [] pos) (fun D σ H => tb (wKeep X.K c i j D) D σ H) := by
  refine ⟨fun pins z σ H D I h => ?_⟩
  have good := I.ok
  have frames : X.A.frames = some (X.env :: X.outer) := good.frames.trans (congrArg some st)
  refine wpAny_Try_except (wpAny_mono ((run (wKeep X.K c i j D) (X.pn ++ pins) (fun e y => wpAny (model X.prog X.w) X.A (noteFrame e X.env) (fun _ y2 => wpAny (model X.prog X.w) X.A (setFlight e none) (fun _ y3 =>
    wpAny (model X.prog X.w) X.A (handleBy e X.env [.ExceptHandler (some (.Name x np)) (some n) [b₀] pos']) (SP X pins D) X.xe y3) X.xe y2) X.xe y) (fun u y air => ?_) PassesOwn.looking).run [] z σ H D (I.toTry _) h) (fun fl y done => ?_) (fun _ _ q => q))
  · obtain ⟨a, B, y0, pins0, τ, G, cls, d, rfl, I0, inB, up, sky, off, os, bare, rfl, yes, go⟩ := air
    have I1 : Inv X pins τ G y0 := I0.ofTry good
    rw [st] at sky
    show wpAny (model X.prog X.w) X.A (noteFrame (.ref a) X.env) _ _ _
    refine Sky.land Zc.steady frames fr sky fun g3 fl3 up3 => ?_
    have I3 : Inv X pins τ G { y with heap := g3 } := I1.landed inB fl3.1 (up.trans up3) os bare
    obtain ⟨o3, v3, at3, z3, d3⟩ := fl3.there
    have nofr : a ∉ frs (X.env :: X.outer) := fun m => by
      obtain ⟨_, o, e, w⟩ := fl3.2.2.1.mem m
      rw [at3] at e
      cases e
      exact w _ d3
    have nl : a ≠ X.env.locals := fun q => nofr (List.mem_filterMap.mpr ⟨X.env, List.mem_cons_self, fr.trans (congrArg some q.symm)⟩)
    have nf : a ∉ X.fs := fun m => nofr (let ⟨e, h1, h2⟩ := List.mem_filterMap.mp m; List.mem_filterMap.mpr ⟨e, List.mem_cons_of_mem _ h1, h2⟩)
    have notB : B.get? a = none := fl3.2.1
    have newer : ∀ b o, y0.heap.get? b = some o → b ∉ frs X.stack → b ≠ a := fun b o e nb q => by
      have e2 := inB b o e nb
      rw [q, notB] at e2
      cases e2
    have new0 : X.s_0.heap.get? a = none := by
      cases e : X.s_0.heap.get? a with
      | none => rfl
      | some o =>
        obtain ⟨o2, e2⟩ := I1.base.there a o e (by rw [noex]; exact fun m => nomatch m)
        exact absurd rfl (newer a o2 e2 (by rw [st]; exact nofr))
    have apart : ∀ p ∈ X.pn ++ pins, p.1 ≠ a := fun p hp => by
      obtain ⟨e, _, q1, q2, _⟩ := I1.pin p hp
      refine newer p.1 p.2 e fun m => ?_
      rw [st] at m
      rcases List.mem_filterMap.mp m with ⟨env, h1, h2⟩
      rcases List.mem_cons.mp h1 with rfl | h1
      · rw [fr] at h2
        exact q1 (Option.some.inj h2).symm
      · exact q2 (List.mem_filterMap.mpr ⟨env, h1, h2⟩)
    have U3 := I3.suite at3 d3 off nl nf
    refine wpAny_handleBy_cons (codeAny_handlers_test ?_) (by intro q; cases q)
    have looks : PySem.W.Looks (model X.prog X.w) g3 (typeOf (.ref a)) cls := fun _ _ _ _ k q => wpAny_typeOf_ref (k _ _ at3) (by rw [z3.1]; exact q)
    have asks := PySem.W.exm_one (M := model X.prog X.w) I3.kIn looks yes
    have named : ∀ {R E : Value → Shared → Prop}, R c { y with heap := g3 } → wpAny (model X.prog X.w) (X.A.mark (some (.ref a))) (eval (.Name x np) X.env) R E { y with heap := g3 } := fun {R E} r => by
      obtain ⟨k1, k2, k3 | ⟨k3, k4, k5⟩⟩ := nm
      · exact ld_glob (X := X.suite a ((a, o3) :: (X.pn ++ pins))) U3 k1 k3 r k2
      · exact ld_blt (X := X.suite a ((a, o3) :: (X.pn ++ pins))) U3 k1 k3 k4 r k5 k2
    refine named (asks.here (codeAny_handlers_suite_as (HandSPX.lands_againZ fl3 fun g4 fl4 up4 => ?_)))
    have I4 : Inv X pins τ G { y with heap := g4 } := I1.landed inB fl4.1 ((up.trans up3).trans up4) os bare
    obtain ⟨o4, v4, at4, z4, d4⟩ := fl4.there
    have U4 := I4.suite at4 d4 off nl nf
    refine store_ok (X := X.suite a ((a, o4) :: (X.pn ++ pins))) (v := .ref a) U4 nd ix (.inl lo) rfl (fun y5 U5 => ?_) (.inr lo)
    have len : i < τ.length := by rw [I4.len]; exact (List.getElem?_eq_some_iff.mp ix).1
    refine wpAny_mono ((keep a ((a, o4) :: (X.pn ++ pins))).run [] y5 _ G { nx := fun τ' G' => τ' = (τ.set i (some (.ref a))).set j (some (.ref a)) ∧ G' = G, rt := fun _ _ => False } U5 ⟨.ref a, List.getElem?_set_self len, rfl, rfl⟩) (fun fl y6 done => ?_) (fun _ _ q => False.elim q)
    cases fl with
    | ret u => obtain ⟨_, _, _, _, _, q⟩ := done; exact q.elim
    | brk => obtain ⟨_, _, _, q⟩ := done; exact q.elim
    | cont => obtain ⟨_, _, _, q⟩ := done; exact q.elim
    | next =>
      obtain ⟨τ6, G6, U6, e1, e2⟩ := done
      subst e1 e2
      have I6 : Inv X ((a, o4) :: pins) ((τ.set i (some (.ref a))).set j (some (.ref a))) G6 y6 := ⟨good, U6.os, U6.bare, U6.base, U6.loc, U6.cell, U6.free, U6.freeC, fun p hp => U6.pin p (by
        rcases List.mem_append.mp hp with m | m
        · exact List.mem_append_left _ (List.mem_cons_of_mem _ (List.mem_append_left _ m))
        · rcases List.mem_cons.mp m with rfl | m
          · exact List.mem_append_left _ List.mem_cons_self
          · exact List.mem_append_left _ (List.mem_cons_of_mem _ (List.mem_append_right _ m))), U6.hok, U6.len⟩
      refine gone_ok I6 nd ix lo fun y7 I7 => ?_
      refine ⟨_, _, tracked I7 z4 d4 new0 apart, ?_⟩
      have e : ((τ.set i (some (V.ref a))).set j (some (V.ref a))).set i none = (τ.set j (some (V.ref a))).set i none := by
        rw [List.set_comm _ _ ji, List.set_set]
      rw [e]
      exact go a off
  · cases fl with
    | next => exact wpAny_execs_nil (let ⟨τ, G, I2, q⟩ := done; ⟨τ, G, I2.ofTry good, q⟩)
    | ret u => exact (let ⟨v, τ, G, I2, r, q⟩ := done; ⟨v, τ, G, I2.ofTry good, r, q⟩)
    | brk => exact (let ⟨τ, G, I2, q⟩ := done; ⟨τ, G, I2.ofTry good, q⟩)
    | cont => exact (let ⟨τ, G, I2, q⟩ := done; ⟨τ, G, I2.ofTry good, q⟩)
end
/-- isinstance of a kept exception of the class at D: of a class, of a tuple of classes -/
def rIsK (K : PySem.W.Frag) (D : Addr) : List V → Hp → VK → Prop := fun xs H Q => ∃ (a : Addr) (c : V) (b : Bool), xs = [.ref a, c] ∧ H a = some (ExK (.ref D) a) ∧
  ((∃ cv, (∀ u, RelV c u → u = cv) ∧ PySem.W.kitOne K (.ref D) cv = some b) ∨ (∃ (t : Addr) (cs : List V), c = .ref t ∧ H t = some (.tup cs) ∧ ∀ us, Vals cs us → PySem.W.kitAny K (.ref D) us = some b)) ∧ Q (.bl b) H
theorem call_isK {X : Cx} {D : Addr} (C : ExcC X.K D) : CallR X (.builtin "isinstance") (rIsK X.K D) := by
  intro pins z σ H xs us Q I r h
  obtain ⟨a, c, b, rfl, hk, hc, q⟩ := h
  match r with
  | .cons ra (.cons rc .nil) =>
    cases ra
    obtain ⟨⟨oe, vs, at_, zc, dd⟩, _⟩ := I.hok a _ hk
    have J : PySem.W.InstAt z.heap a oe D none := by
      obtain ⟨oc, od, oda, osl⟩ := oe
      obtain ⟨e1, e2⟩ := zc
      dsimp only at e1 e2 dd
      subst e1 e2 dd
      exact ⟨at_, rfl, rfl, trivial⟩
    have Z := PySem.W.handS_kitx_exc (x := a) (ox := oe) C.hg C.hk C.hs C.hd C.ha C.hn C.ht C.hm
    rcases hc with ⟨cv, one, e⟩ | ⟨t, cs, rfl, ht, all⟩
    · have ec := one _ rc
      subst ec
      exact PySem.W.kia_one Z I.kIn J e (fun w => nomatch w) fun tk => ⟨.bl b, H, I.kept (t' := tk) fun _ _ w => w, rfl, q⟩
    · cases rc
      obtain ⟨_, its, rv, o, ho, hcl, n, hd⟩ := I.hok t _ ht
      obtain ⟨oc, od, oda, osl⟩ := o
      dsimp only at hcl hd
      subst hcl hd
      exact PySem.W.kia_tup Z I.kIn J ho (by simpa using all its rv) (fun w => nomatch w) fun tk => ⟨.bl b, H, I.kept (t' := tk) fun _ _ w => w, rfl, q⟩
/-- a def that may raise, by its name -/
structure CalX (P : Program) (w : World) (K : PySem.W.Frag) (mg : Str → Option Value) (base : Heap) (k : Nat) (x : Str) (ps : List Str) (sp : L2.Sp) : Prop where
  ex : ∃ (f : Addr) (fd : FuncData), FnOk P w K mg base (L2.CX P w) k f fd ps sp ∧ mg x = some (.ref f) ∧ PySem.W.keepIn K (.ref f) = true ∧ Binds K fd ps []
theorem pe_ownX {X : Cx} {k : Nat} {x : Str} {ps : List Str} {sp : L2.Sp} {E : XK} {W : WX} {e : Expr} {es : List Expr} {t : TA} {p pos : Pos} (c : CalX X.prog X.w X.K X.mg X.base k x ps sp) (hr : Room k X.A) (hg : Gl X x) (ha : PA X (e :: es) t) (tk : Takes X W) (hW : ∀ cls d σ H, E cls d H → W cls d σ H)
    (hdb : (x == ("__debug__" : Str)) = false := by decide) (he : starEach (e :: es) X.env = (false, eval e X.env) :: starEach es X.env := by rfl) (hpl : (backTo pos (starEach es X.env)).any (·.1) = false := by rfl) :
    PE X (.Call (.Name x p) (e :: es) [] pos) (tCall sp [] E t) := by
  obtain ⟨f, fd, F, m, kp, b⟩ := c.ex
  exact pe_call F hr hg m kp b .nil (passes_call tk hW) ha hdb he hpl
end Xc
namespace Sp
open PySem L2 LamX Tri Xc
/-! ### what is no place -/
def Bad (K : PySem.W.Frag) (H : Hp) (x : V) (m : Int) : Prop := (∃ n, x = .int n ∧ ¬ (0 ≤ n ∧ n < m)) ∨ NoInt K H x
def spCheckR (K : PySem.W.Frag) (C : Addr) : L2.Sp := fun vs H _ E => ∃ (x : V) (m : Int), vs = [x, .int m] ∧ Bad K H x m ∧ E (.ref C) none H
def spSumR (K : PySem.W.Frag) (C : Addr) : L2.Sp := fun vs H _ E => ∃ (p q : Addr) (ns ms : List Int) (x : V), vs = [.ref p, .ref q, x] ∧ SqL K H p (ns.map V.int) ∧ SqL K H q (ms.map V.int) ∧ ns.length ≤ 1000 ∧ ms.length ≤ 1000 ∧ Bad K H x ((ns.length : Int) * (ms.length : Int)) ∧ E (.ref C) none H
def spMidR (K : PySem.W.Frag) (C : Addr) : L2.Sp := fun vs H _ E => ∃ (p q : Addr) (ns ms : List Int), vs = [.ref p, .ref q] ∧ SqL K H p (ns.map V.int) ∧ SqL K H q (ms.map V.int) ∧ ns.length ≤ 1000 ∧ ms.length ≤ 1000 ∧ (ns = [] ∨ ms = []) ∧ E (.ref C) none H
/-- what the top has written of the class of the refusal -/
structure NoP (K : PySem.W.Frag) (mg : Str → Option Value) (C S : Addr) : Prop where
  gC : mg "NoPlace" = some (.ref C)
  gS : mg "SumError" = some (.ref S)
  xC : PySem.W.excIn K C [.type "ValueError", .type "Exception", .type "BaseException", .type "object"] "ValueError.__new__" = true
  kC : PySem.W.keepIn K (.ref C) = true
  bC : PySem.W.subIn K (.ref C) (.type "BaseException") = some true
  tC : PySem.W.typeIn K (.ref C) = some (.type "type")
  eC : PySem.W.exmOne K (.ref C) (.ref S) = some true
  is : ExcC K C
end Sp
namespace Xc
open PySem PySem.Spec PyProof.Rows L2
theorem pe_ownS {X : Cx} {k : Nat} {x : Str} {ps : List Str} {sp : L2.Sp} {W : WX} {e : Expr} {es : List Expr} {t : TA} {p pos : Pos} (c : CalX X.prog X.w X.K X.mg X.base k x ps sp) (hr : Room k X.A) (hg : Gl X x) (ha : PA X (e :: es) t) (tk : Takes X W)
    (hdb : (x == ("__debug__" : Str)) = false := by decide) (he : starEach (e :: es) X.env = (false, eval e X.env) :: starEach es X.env := by rfl) (hpl : (backTo pos (starEach es X.env)).any (·.1) = false := by rfl) :
    PE X (.Call (.Name x p) (e :: es) [] pos) (tCallS sp (fun σ cls d H => W cls d σ H) t) := by
  obtain ⟨f, fd, F, m, kp, b⟩ := c.ex
  exact pe_callS F hr hg m kp b (fun σ => passAt tk σ) ha hdb he hpl
end Xc
namespace Sp
open PySem L2 LamX Tri Xc
structure Flg (K : PySem.W.Frag) (mg : Str → Option Value) (C C1 C2 C3 C4 : Addr) : Prop where
  g1 : mg "NoCommand" = some (.ref C1)
  g2 : mg "NoSide" = some (.ref C2)
  g3 : mg "NoNumber" = some (.ref C3)
  g4 : mg "NoText" = some (.ref C4)
  no : PySem.W.kitAny K (.ref C) [.ref C1, .ref C3, .ref C2, .ref C4] = some false
  yes : PySem.W.kitOne K (.ref C) (.ref C) = some true
  val : PySem.W.kitOne K (.ref C) (.type "ValueError") = some true
def spFlags (K : PySem.W.Frag) (C : Addr) : L2.Sp := fun vs H Q _ => ∃ a : Addr, vs = [.ref a] ∧ H a = some (ExK (.ref C) a) ∧ ∀ H', Same H H' → Q (.bl true) H'
def spRight09 (K : PySem.W.Frag) (T : List (Addr × Str)) : L2.Sp := fun vs H Q _ => ∃ (p q : Addr) (ns ms : List Int), vs = [.ref p, .ref q] ∧ SqL K H p (ns.map V.int) ∧ SqL K H q (ms.map V.int) ∧ Fine ns ∧ Fine ms ∧ ns.length ≤ 300 ∧ ms.length ≤ 300 ∧ Tabs T H ∧ ∀ H', Nx T H H' → Q (.bl true) H'
end Sp
namespace Sp
open PySem L2 LamX Tri Xc
theorem dpAll_trips {K : PySem.W.Frag} {H : Hp} : ∀ {us : List Addr} {L : List T3}, Trip H us L → DpAll K H (us.map V.ref) (L.map fun w => (dt w : PyData))
  | [], [], _ => .nil
  | [], _ :: _, t => absurd t.len (by simp)
  | _ :: _, [], t => absurd t.len (by simp)
  | u :: us, w :: L, t => .cons (dp_tri (t.at_ 0 u w rfl rfl)) (dpAll_trips ⟨by have := t.len; simp at this; exact this, fun j b x h1 h2 => t.at_ (j + 1) b x h1 h2⟩)
theorem dp_trips {K : PySem.W.Frag} {H : Hp} {r : Addr} {us : List Addr} {L : List T3} (er : H r = some (.lst (us.map V.ref))) (t : Trip H us L) : Dp K H (.ref r) (.list (L.map fun w => (dt w : PyData))) := .lst (SqL.new er) (dpAll_trips t)
theorem lay_trips : ∀ L : List T3, PyData.canLayAll0 (L.map fun w => (dt w : PyData)) = true
  | [] => by rw [List.map_nil, PyData.canLayAll0]
  | w :: L => by rw [List.map_cons, PyData.canLayAll0, lay_trips L, lay_tri]; rfl
theorem dep_tri (w : T3) : PyData.depth (dt w) ≤ 1 := by
  simp only [PyData.depth, PyData.depthAll]
  decide
theorem dep_trips : ∀ L : List T3, PyData.depthAll (L.map fun w => (dt w : PyData)) ≤ 1
  | [] => by rw [List.map_nil, PyData.depthAll]; decide
  | w :: L => by
    rw [List.map_cons, PyData.depthAll]
    have h1 := dep_trips L
    have h2 := dep_tri w
    omega
theorem shaped_trips (L : List T3) : SeqAt.shaped (.list (L.map fun w => (dt w : PyData))) = true := by
  have h := dep_trips L
  unfold SeqAt.shaped
  simp only [PyData.canLay0, lay_trips, PyData.depth]
  simp
  omega
theorem eqv_trips_nil {L : List T3} (h : L ≠ []) : PyData.eqv (.list (L.map fun w => (dt w : PyData))) (di []) = false := by
  cases L with
  | nil => exact absurd rfl h
  | cons w L =>
    rw [PyData.eqv]
    rfl
end Sp
namespace Sp
open PySem L2 LamX Tri Xc
theorem TyX.nx {T : List (Addr × Str)} {K : PySem.W.Frag} {H H' : Hp} {x : V} {t : Value} (n : Nx T H H') (h : TyX K H x t) : TyX K H' x t := by
  cases h with
  | base b =>
    cases b with
    | non => exact .base .non
    | bl y => exact .base (.bl y)
    | int i => exact .base (.int i)
    | str y => exact .base (.str y)
    | flt y => exact .base (.flt y)
    | lst e => exact .base (.lst (n.g e))
    | frz e => exact .base (.frz (n.g e))
    | tup e => exact .base (.tup (n.g e))
    | dK e => exact .base (.dK (n.g e))
    | dT e => exact .base (.dT (n.g e))
    | ins e c1 c2 c3 c4 c5 => exact .base (.ins (n.g e) c1 c2 c3 c4 c5)
  | byt b => exact .byt b
  | set e => exact .set (n.g e)
  | kList e c => exact .kList e c
  | kTuple e c => exact .kTuple e c
  | kDict e c => exact .kDict e c
  | fTuple e => exact .fTuple (n.g e)
  | fDict e => exact .fDict (n.g e)
theorem NoInt.nx {T : List (Addr × Str)} {K : PySem.W.Frag} {H H' : Hp} {x : V} (n : Nx T H H') (h : NoInt K H x) : NoInt K H' x := let ⟨t, m, y⟩ := h; ⟨t, m, TyX.nx n y⟩
theorem Bad.nx {T : List (Addr × Str)} {K : PySem.W.Frag} {H H' : Hp} {x : V} {m : Int} (n : Nx T H H') (h : Bad K H x m) : Bad K H' x m := h.imp id (NoInt.nx n)
theorem Bad.up {K : PySem.W.Frag} {H H' : Hp} {x : V} {m : Int} (s : Same H H') (h : Bad K H x m) : Bad K H' x m := h.imp id (NoInt.up s)
theorem no_bl {K : PySem.W.Frag} {H : Hp} {b : Bool} : NoInt K H (.bl b) := ⟨"bool", by decide, .base (.bl b)⟩
theorem no_str {K : PySem.W.Frag} {H : Hp} {z : Str} : NoInt K H (.str z) := ⟨"str", by decide, .base (.str z)⟩
theorem no_non {K : PySem.W.Frag} {H : Hp} : NoInt K H .non := ⟨"NoneType", by decide, .base .non⟩
theorem no_lst {K : PySem.W.Frag} {H : Hp} {p : Addr} {xs : List V} (h : H p = some (.lst xs)) : NoInt K H (.ref p) := ⟨"list", by decide, .base (.lst h)⟩
theorem no_tup {K : PySem.W.Frag} {H : Hp} {p : Addr} {xs : List V} (h : H p = some (.tup xs)) : NoInt K H (.ref p) := ⟨"tuple", by decide, .base (.tup h)⟩
theorem no_dct {K : PySem.W.Frag} {H : Hp} {p : Addr} (h : H p = some (.dK [])) : NoInt K H (.ref p) := ⟨"dict", by decide, .base (.dK h)⟩
/-- what is no place of so many, nor of none -/
def Bad2 (K : PySem.W.Frag) (H : Hp) (x : V) (m : Int) : Prop := Bad K H x m ∧ Bad K H x 0
theorem Bad2.no {K : PySem.W.Frag} {H : Hp} {x : V} {m : Int} (h : NoInt K H x) : Bad2 K H x m := ⟨.inr h, .inr h⟩
theorem Bad2.int {K : PySem.W.Frag} {H : Hp} {n m : Int} (h : ¬ (0 ≤ n ∧ n < m)) : Bad2 K H (.int n) m := ⟨.inl ⟨n, rfl, h⟩, .inl ⟨n, rfl, by omega⟩⟩
theorem Bad2.nx {T : List (Addr × Str)} {K : PySem.W.Frag} {H H' : Hp} {x : V} {m : Int} (n : Nx T H H') (h : Bad2 K H x m) : Bad2 K H' x m := ⟨h.1.nx n, h.2.nx n⟩
def spNoPlaces (K : PySem.W.Frag) : L2.Sp := fun vs H Q _ => ∃ (a : Addr) (m : Int), vs = [.ref a, .int m] ∧ HandAt H a ∧ 0 ≤ m ∧ m ≤ 90000 ∧ ∀ (r : Addr) (xs : List V) (H' : Hp), Ext a H H' → H r = none → H' r = some (.lst xs) → xs.length = 19 → (∀ x ∈ xs, Bad2 K H' x m) → Q (.ref r) H'
def spRefused (K : PySem.W.Frag) : L2.Sp := fun vs H Q _ => ∃ (p q : Addr) (ns ms : List Int) (x : V), vs = [.ref p, .ref q, x] ∧ SqL K H p (ns.map V.int) ∧ SqL K H q (ms.map V.int) ∧ ns.length ≤ 300 ∧ ms.length ≤ 300 ∧ Bad K H x ((ns.length : Int) * (ms.length : Int)) ∧ ∀ H', Same H H' → Q (.bl true) H'
theorem nx_set {T : List (Addr × Str)} {H0 H : Hp} {D : Addr} {acc xs : List V} (nD : H0 D = none) (e : H D = some (.lst acc)) (n : Nx T H0 H) : Nx T H0 (upd H D (.lst xs)) := by
  refine ⟨fun b o h t => ?_, fun t q hq => ?_⟩
  · rw [upd_ne (fun z => by rw [z, nD] at h; cases h)]
    exact n.of b o h t
  · obtain ⟨ps, h1, h2, h3⟩ := n.tabs t q hq
    refine ⟨ps, by rw [upd_ne (fun z => by rw [z, e] at h1; cases h1)]; exact h1, h2, fun pos cv hc => ?_⟩
    obtain ⟨c, c1, c2⟩ := h3 pos cv hc
    refine ⟨c, c1, ?_⟩
    rw [upd_ne (fun z => by rw [z, e] at c2; unfold CodeO at c2; cases c2)]
    exact c2
theorem eqv_trips_same (L : List T3) : PyData.eqv (.list (L.map fun w => (dt w : PyData))) (.list (L.map fun w => (dt w : PyData))) = true := by
  rw [PyData.eqv]
  refine eqvAll_same fun x hx => ?_
  obtain ⟨w, _, rfl⟩ := List.mem_map.mp hx
  exact eqv_tri w
end Sp

/-! numbers and rows as texts. -/
namespace Tx
open PySem PySem.NumText PyProof.Rows
abbrev toStr (n : Int) : Str := Str.ofString (toString n)
abbrev dg (m : Nat) : List Nat := (Nat.toDigits 10 m).map Char.toNat
theorem ofs (z : String) : (Str.ofString z).cps.toList = z.toList.map Char.toNat := by
  rw [PySem.Str.ofString_eq_toList]
theorem cps_nat (m : Nat) : (toStr (m : Int)).cps.toList = dg m := by
  rw [ofs]
  show (Nat.repr m).toList.map Char.toNat = _
  rw [Nat.toList_repr]
theorem cps_neg {m : Nat} (h : 0 < m) : (toStr (-(m : Int))).cps.toList = 45 :: dg m := by
  rw [ofs]
  obtain ⟨k, rfl⟩ : ∃ k, m = k + 1 := ⟨m - 1, by omega⟩
  have e : toString (-((k + 1 : Nat) : Int)) = "-" ++ Nat.repr (k + 1) := rfl
  rw [e, String.toList_append, List.map_append, Nat.toList_repr]
  rfl
theorem dg_all (m : Nat) : AllDigits (dg m) := by
  intro c hc
  obtain ⟨ch, hch, e⟩ := List.mem_map.mp hc
  have r := PyProof.Rows.digit_range (Nat.isDigit_of_mem_toDigits (by decide) (by decide) hch)
  rw [← e]
  exact r
theorem dg_val (m : Nat) : digitsVal (dg m) = m := PySem.W.KIN.val_back m
theorem dg_ne (m : Nat) : dg m ≠ [] := fun e => by
  have h := dg_val m
  rw [e] at h
  have h0 : m = 0 := h.symm
  subst h0
  exact absurd e (by decide)
theorem dg_len {m k : Nat} (hk : 0 < k) (h : m < 10 ^ k) : (dg m).length ≤ k := by
  rw [List.length_map]
  exact (Nat.length_toDigits_le_iff (by decide) hk).mpr h
theorem len_cps (x : Str) : x.cps.toList.length = x.length := by simp [Str.length]
theorem str_ext {x y : Str} (h : x.cps.toList = y.cps.toList) : x = y := Str.ext' (Array.toList_inj.mp h)
/-- how a number is written -/
theorem cps_int (n : Int) : (∃ m : Nat, n = (m : Int) ∧ (toStr n).cps.toList = dg m) ∨ ∃ m : Nat, 0 < m ∧ n = -(m : Int) ∧ (toStr n).cps.toList = 45 :: dg m := by
  rcases Int.le_total 0 n with h | h
  · obtain ⟨m, rfl⟩ := Int.eq_ofNat_of_zero_le h
    exact .inl ⟨m, rfl, cps_nat m⟩
  · by_cases c : n = 0
    · subst c
      exact .inl ⟨0, rfl, cps_nat 0⟩
    · refine .inr ⟨(-n).toNat, by omega, by omega, ?_⟩
      have := cps_neg (m := (-n).toNat) (by omega)
      rw [show -(((-n).toNat : Nat) : Int) = n by omega] at this
      exact this
theorem to_len {n : Int} {k : Nat} (hk : 0 < k) (h : n.natAbs < 10 ^ k) : (toStr n).length ≤ k + 1 := by
  rw [← len_cps]
  rcases cps_int n with ⟨m, rfl, e⟩ | ⟨m, h0, rfl, e⟩
  · rw [e]
    have := dg_len (m := m) hk (by simpa using h)
    omega
  · rw [e, List.length_cons]
    have := dg_len (m := m) hk (by simpa using h)
    omega
theorem reads {n : Int} (h : n.natAbs < 10 ^ 60) : PySem.intText? (toStr n) = some n := by
  have l := to_len (n := n) (k := 60) (by decide) h
  rcases cps_int n with ⟨m, rfl, e⟩ | ⟨m, h0, rfl, e⟩
  · rw [intText_digits (by rw [e]; exact dg_all m) (by rw [e]; exact dg_ne m) (by omega), e, dg_val]
  · rw [intText_neg e (dg_all m) (dg_ne m) (by omega), dg_val]
theorem free (n : Int) : 32 ∉ (toStr n).cps.toList := by
  rcases cps_int n with ⟨m, _, e⟩ | ⟨m, _, _, e⟩
  · rw [e]
    intro h
    have := dg_all m 32 h
    omega
  · rw [e]
    intro h
    rcases List.mem_cons.mp h with h | h
    · exact absurd h (by decide)
    · have := dg_all m 32 h
      omega
/-! a word's figures -/
abbrev minus : Str := "-"
abbrev blankS : Str := " "
theorem minus_eq : minus = ⟨#[45]⟩ := by decide +kernel
theorem blank_eq : blankS = ⟨#[32]⟩ := by decide +kernel
abbrev figs (x : Str) : Str := Txt.removeprefix x minus
theorem figs_cps (x : Str) : (figs x).cps.toList = (match x.cps.toList with | 45 :: r => r | l => l) := by
  unfold figs Txt.removeprefix
  rw [minus_eq]
  have iff := StrLaws.subAt_one x 45 0
  by_cases c : x.cps.toList[0]? = some 45
  · have h := iff.mpr c
    rw [if_pos h.2]
    obtain ⟨r, hr⟩ : ∃ r, x.cps.toList = 45 :: r := by
      cases e : x.cps.toList with
      | nil => rw [e] at c; cases c
      | cons a r => rw [e] at c; cases c; exact ⟨r, rfl⟩
    have hl := len_cps x
    rw [hr, List.length_cons] at hl
    show (if x.length - 1 == x.length then x else Builtin.Str.strSub x 1 x.length).cps.toList = _
    rw [if_neg (by simp; omega), StrLaws.strSub_toList, hr]
    show (List.drop 1 (45 :: r)).take (x.length - 1) = r
    rw [List.drop_one, List.tail_cons]
    exact List.take_of_length_le (by omega)
  · have hn : Builtin.Str.subAt x ⟨#[45]⟩ 0 = false := by
      cases e : Builtin.Str.subAt x ⟨#[45]⟩ 0 with
      | false => rfl
      | true =>
        exfalso
        rw [StrLaws.subAt_eq] at e
        have e2 : (x.cps.toList.drop 0).take 1 = [45] := eq_of_beq (show ((x.cps.toList.drop 0).take 1 == [45]) = true from e)
        rw [List.drop_zero] at e2
        cases q : x.cps.toList with
        | nil => rw [q] at e2; cases e2
        | cons a r =>
          rw [q] at e2 c
          have : a = 45 := by simpa using e2
          exact c (by rw [this]; rfl)
    rw [hn]
    show x.cps.toList = _
    cases e : x.cps.toList with
    | nil => rfl
    | cons a r =>
      rw [e] at c
      have : a ≠ 45 := fun z => c (by rw [z]; rfl)
      split
      · rename_i h
        cases h
        exact absurd rfl this
      · rfl
theorem ascii_digit : ∀ c : Fin 128, Unicode.isDigit c.val = decide (48 ≤ c.val ∧ c.val ≤ 57) := by decide +kernel
theorem isascii_iff (x : Str) : Txt.isascii x = true ↔ ∀ c ∈ x.cps.toList, c < 128 := by
  unfold Txt.isascii
  rw [← Array.all_toList, List.all_eq_true]
  exact ⟨fun h c hc => of_decide_eq_true (h c hc), fun h c hc => decide_eq_true (h c hc)⟩
/-- figures alone, one at least -/
def good (x : Str) : Bool := Txt.isascii (figs x) && Txt.isdigit (figs x)
theorem good_iff (x : Str) : good x = true ↔ AllDigits (figs x).cps.toList ∧ (figs x).cps.toList ≠ [] := by
  unfold good
  rw [Bool.and_eq_true, isascii_iff]
  have hd : Txt.isdigit (figs x) = true ↔ (figs x).cps.toList ≠ [] ∧ ∀ c ∈ (figs x).cps.toList, Unicode.isDigit c = true := by
    unfold Txt.isdigit
    rw [Bool.and_eq_true, ← Array.all_toList, List.all_eq_true]
    have hl := len_cps (figs x)
    constructor
    · rintro ⟨h1, h2⟩
      have h1 : 0 < (figs x).length := of_decide_eq_true h1
      exact ⟨fun e => by rw [e] at hl; simp at hl; omega, h2⟩
    · rintro ⟨h1, h2⟩
      have := List.length_pos_iff.mpr h1
      exact ⟨decide_eq_true (by omega), h2⟩
  rw [hd]
  constructor
  · rintro ⟨h1, h2, h3⟩
    refine ⟨fun c hc => ?_, h2⟩
    have a := ascii_digit ⟨c, h1 c hc⟩
    have b := h3 c hc
    dsimp only at a
    rw [a] at b
    exact of_decide_eq_true b
  · rintro ⟨h1, h2⟩
    refine ⟨fun c hc => by have := h1 c hc; omega, h2, fun c hc => ?_⟩
    have r := h1 c hc
    have a := ascii_digit ⟨c, by omega⟩
    dsimp only at a
    rw [a]
    exact decide_eq_true r
/-- the number that such a word is read as -/
def valOf (x : Str) : Int := match x.cps.toList with
  | 45 :: r => -((digitsVal r : Nat) : Int)
  | l => ((digitsVal l : Nat) : Int)
theorem good_reads {x : Str} (h : good x = true) (hl : x.length ≤ 640) : PySem.intText? x = some (valOf x) := by
  obtain ⟨h1, h2⟩ := (good_iff x).mp h
  rw [figs_cps] at h1 h2
  unfold valOf
  split at h1
  · rename_i r e
    rw [e] at h2
    rw [intText_neg e h1 h2 (by omega)]
  · rename_i n
    split at h2
    · rename_i r e
      exact absurd e (n r)
    · rw [intText_digits h1 h2 (by omega)]
/-- the number that a word of at most so many figures writes -/
def writ (x : Str) (m : Int) : Option Int := if good x = true ∧ ((figs x).length : Int) ≤ m then (if toStr (valOf x) = x then some (valOf x) else none) else none
theorem figs_len (x : Str) : (figs x).length ≤ x.length := by
  have h := figs_cps x
  have h1 := len_cps x
  have h2 := len_cps (figs x)
  rw [h] at h2
  split at h2
  · rename_i r e
    rw [e, List.length_cons] at h1
    omega
  · omega
theorem len_figs (x : Str) : x.length ≤ (figs x).length + 1 := by
  have h := figs_cps x
  have h1 := len_cps x
  have h2 := len_cps (figs x)
  rw [h] at h2
  split at h2
  · rename_i r e
    rw [e, List.length_cons] at h1
    omega
  · omega
theorem writ_num {x : Str} {m v : Int} (h : writ x m = some v) : toStr v = x := by
  unfold writ at h
  split at h
  · split at h
    · rename_i e
      cases h
      exact e
    · cases h
  · cases h
theorem figs_int (n : Int) : (figs (toStr n)).cps.toList = dg n.natAbs := by
  rw [figs_cps]
  rcases cps_int n with ⟨m, rfl, e⟩ | ⟨m, h0, rfl, e⟩
  · rw [e]
    split
    · rename_i r q
      have := dg_all m 45 (by rw [q]; exact List.mem_cons_self)
      omega
    · simp
  · rw [e]
    simp
theorem good_int (n : Int) : good (toStr n) = true := (good_iff _).mpr ⟨by rw [figs_int]; exact dg_all _, by rw [figs_int]; exact dg_ne _⟩
theorem val_int (n : Int) : valOf (toStr n) = n := by
  unfold valOf
  rcases cps_int n with ⟨m, rfl, e⟩ | ⟨m, h0, rfl, e⟩
  · rw [e]
    split
    · rename_i r q
      have := dg_all m 45 (by rw [q]; exact List.mem_cons_self)
      omega
    · rw [dg_val]
  · rw [e]
    show -((digitsVal (dg m) : Nat) : Int) = _
    rw [dg_val]
theorem writ_int {n : Int} {k : Nat} (hk : 0 < k) (h : n.natAbs < 10 ^ k) : writ (toStr n) k = some n := by
  have hl : (figs (toStr n)).length ≤ k := by
    rw [← len_cps, figs_int]
    exact dg_len hk h
  unfold writ
  rw [val_int, if_pos ⟨good_int n, by omega⟩, if_pos rfl]
theorem fold_lt : ∀ (cs : List Nat) (a : Nat), AllDigits cs → cs.foldl (fun acc c => acc * 10 + (c - 48)) a < (a + 1) * 10 ^ cs.length
  | [], a, _ => by simp
  | c :: cs, a, h => by
    have ih := fold_lt cs (a * 10 + (c - 48)) h.tail
    have hc := h.head
    rw [List.foldl_cons, List.length_cons, Nat.pow_succ]
    refine Nat.lt_of_lt_of_le ih ?_
    rw [Nat.mul_comm (10 ^ cs.length) 10, ← Nat.mul_assoc]
    exact Nat.mul_le_mul_right _ (by omega)
theorem val_lt {cs : List Nat} (h : AllDigits cs) : digitsVal cs < 10 ^ cs.length := by
  have := fold_lt cs 0 h
  rw [Nat.zero_add, Nat.one_mul] at this
  exact this
theorem valOf_lt {x : Str} (h : good x = true) : (valOf x).natAbs < 10 ^ (figs x).length := by
  have h1 := ((good_iff x).mp h).1
  have e := figs_cps x
  have l := len_cps (figs x)
  rw [← l]
  rw [e] at h1 ⊢
  unfold valOf
  split at h1
  · rename_i r q
    have := val_lt h1
    show (-((digitsVal r : Nat) : Int)).natAbs < 10 ^ r.length
    rw [Int.natAbs_neg]
    exact this
  · rename_i n
    have := val_lt h1
    rw [Int.natAbs_natCast]
    exact this
theorem valOf_log {x : Str} (h : good x = true) (hl : (figs x).length ≤ 60) : (valOf x).natAbs.log2 < 1920 := by
  have h1 := valOf_lt h
  by_cases c : (valOf x).natAbs = 0
  · rw [c]
    decide
  · rw [Nat.log2_lt c]
    refine Nat.lt_of_lt_of_le h1 (Nat.le_trans (Nat.pow_le_pow_right (by decide) hl) ?_)
    decide +kernel
/-! words parted by blanks -/
theorem cut_one {u v s t : List Nat} (hu : 32 ∉ u) (hv : 32 ∉ v) (h : u ++ 32 :: s = v ++ 32 :: t) : u = v ∧ s = t := by
  induction u generalizing v with
  | nil =>
    cases v with
    | nil => exact ⟨rfl, (List.cons.inj h).2⟩
    | cons b v =>
      have := (List.cons.inj h).1
      exact absurd (by rw [this]; exact List.mem_cons_self) hv
  | cons a u ih =>
    cases v with
    | nil =>
      have := (List.cons.inj h).1
      exact absurd (by rw [← this]; exact List.mem_cons_self) hu
    | cons b v =>
      obtain ⟨h1, h2⟩ := List.cons.inj h
      obtain ⟨h3, h4⟩ := ih (fun z => hu (List.mem_cons_of_mem _ z)) (fun z => hv (List.mem_cons_of_mem _ z)) h2
      exact ⟨by rw [h1, h3], h4⟩
theorem join_cps (a b : Str) (r : List Str) : (Str.join blankS (a :: b :: r)).cps.toList = a.cps.toList ++ 32 :: (Str.join blankS (b :: r)).cps.toList := by
  show ((a.cps ++ blankS.cps) ++ (Str.join blankS (b :: r)).cps).toList = _
  rw [Array.toList_append, Array.toList_append, blank_eq]
  simp
theorem join_one : ∀ {A B : List Str}, A ≠ [] → B ≠ [] → (∀ p ∈ A, 32 ∉ p.cps.toList) → (∀ p ∈ B, 32 ∉ p.cps.toList) → Str.join blankS A = Str.join blankS B → A = B
  | [], _, h, _, _, _, _ => absurd rfl h
  | _, [], _, h, _, _, _ => absurd rfl h
  | [a], [b], _, _, _, _, h => by
    have h : a = b := h
    rw [h]
  | [a], b :: c :: r, _, _, ha, _, h => by
    have e := congrArg (fun z : Str => z.cps.toList) h
    rw [join_cps] at e
    have e : a.cps.toList = _ := e
    exact absurd (by rw [e]; simp) (ha a List.mem_cons_self)
  | a :: c :: r, [b], _, _, _, hb, h => by
    have e := congrArg (fun z : Str => z.cps.toList) h
    rw [join_cps] at e
    have e : _ = b.cps.toList := e
    exact absurd (by rw [← e]; simp) (hb b List.mem_cons_self)
  | a :: c :: r, b :: d :: q, _, _, ha, hb, h => by
    have e := congrArg (fun z : Str => z.cps.toList) h
    rw [join_cps, join_cps] at e
    obtain ⟨h1, h2⟩ := cut_one (ha a List.mem_cons_self) (hb b List.mem_cons_self) e
    rw [str_ext h1, join_one (List.cons_ne_nil _ _) (List.cons_ne_nil _ _) (fun p hp => ha p (List.mem_cons_of_mem _ hp)) (fun p hp => hb p (List.mem_cons_of_mem _ hp)) (str_ext h2)]
theorem split_ne (x : Str) : Txt.split x blankS ≠ [] := by
  unfold Txt.split
  split
  · simp
  · split
    · simp
    · unfold Builtin.Str.partsBetween
      intro h
      have := congrArg List.length h
      simp at this
theorem split_free (x : Str) : ∀ p ∈ Txt.split x blankS, 32 ∉ p.cps.toList := by
  rw [blank_eq]
  exact StrLaws.split_free x 32
theorem split_join {A : List Str} (h : A ≠ []) (ha : ∀ p ∈ A, 32 ∉ p.cps.toList) : Txt.split (Str.join blankS A) blankS = A :=
  join_one (split_ne _) h (split_free _) ha (StrLaws.join_split _ _)
theorem join_eq (A : List Str) : Txt.join blankS A = Str.join blankS A := StrLaws.glued_eq_join _ _
/-- a row as a text -/
def rowText (ns : List Int) : Str := if ns = [] then minus else Str.join blankS (ns.map toStr)
theorem row_split {ns : List Int} (h : ns ≠ []) : Txt.split (rowText ns) blankS = ns.map toStr := by
  unfold rowText
  rw [if_neg h]
  refine split_join (by simpa using h) fun p hp => ?_
  obtain ⟨n, _, rfl⟩ := List.mem_map.mp hp
  exact free n
theorem row_minus {ns : List Int} (h : ns ≠ []) : rowText ns ≠ minus := fun e => by
  have h1 := row_split h
  rw [e] at h1
  have h2 : Txt.split (Str.join blankS [minus]) blankS = [minus] := split_join (by simp) fun p hp => by
    rw [List.mem_singleton.mp hp]
    decide +kernel
  have h3 : Str.join blankS [minus] = minus := rfl
  rw [h3, h1] at h2
  cases ns with
  | nil => exact h rfl
  | cons n ns =>
    have h4 : toStr n = minus := (List.cons.inj h2).1
    have h5 := good_int n
    rw [h4] at h5
    exact absurd h5 (by decide +kernel)
/-- the numbers that words write, all of them -/
def writAll (m : Int) : List Str → Option (List Int)
  | [] => some []
  | x :: xs => match writ x m, writAll m xs with
    | some v, some vs => some (v :: vs)
    | _, _ => none
theorem writAll_int {ns : List Int} (h : ∀ n ∈ ns, n.natAbs < 10 ^ 16) : writAll 16 (ns.map toStr) = some ns := by
  induction ns with
  | nil => rfl
  | cons n ns ih =>
    rw [List.map_cons]
    unfold writAll
    rw [show (16 : Int) = ((16 : Nat) : Int) from rfl, writ_int (by decide) (h n List.mem_cons_self), show ((16 : Nat) : Int) = 16 from rfl, ih fun k hk => h k (List.mem_cons_of_mem _ hk)]
theorem sum_len : ∀ {ns : List Int}, (∀ n ∈ ns, n.natAbs < 10 ^ 16) → ((ns.map toStr).map (·.length)).sum ≤ 17 * ns.length
  | [], _ => Nat.le_refl _
  | n :: ns, h => by
    have ih := sum_len (ns := ns) fun k hk => h k (List.mem_cons_of_mem _ hk)
    have l := to_len (n := n) (k := 16) (by decide) (h n List.mem_cons_self)
    rw [List.map_cons, List.map_cons, List.sum_cons, List.length_cons]
    omega
theorem row_len {ns : List Int} (h : ∀ n ∈ ns, n.natAbs < 10 ^ 16) : (rowText ns).length ≤ 18 * ns.length + 1 := by
  unfold rowText
  split
  · rename_i e
    rw [e]
    decide +kernel
  · have h1 := StrLaws.join_length_le blankS (ns.map toStr)
    have h2 := sum_len h
    have h3 : blankS.length = 1 := by decide +kernel
    rw [h3, List.length_map] at h1
    omega
end Tx

/-! draws from a deck, rows written and read: k53, k54. -/
namespace Sp
open PySem L2
/-- a deck: the number, whether it is stirred, how often it was asked (at most n times) -/
def DeckAt (n : Nat) (H : Hp) (a : Addr) : Prop := ∃ x f c : Int, H a = some (.lst [.int x, .int f, .int c]) ∧ 0 ≤ c ∧ c ≤ n
/-- all but the deck stays -/
structure Ky (a : Addr) (H H' : Hp) : Prop where
  of : ∀ b o, H b = some o → b ≠ a → H' b = some o
section
variable {a b p : Addr} {H H' H1 : Hp} {n m : Nat} {xs : List V} {o : HO} {K : PySem.W.Frag}
theorem Ky.refl : Ky a H H := ⟨fun _ _ h _ => h⟩
theorem Ky.trans (e : Ky a H H1) (f : Ky a H1 H') : Ky a H H' := ⟨fun b o h n => f.of b o (e.of b o h n) n⟩
theorem Ky.same (s : Same H H') : Ky a H H' := ⟨fun b o h _ => s b o h⟩
theorem Ky.made (e : Ky a H H') (n : H a = none) : Same H H' := fun b o h => e.of b o h fun z => by rw [z, n] at h; cases h
theorem Ky.free (e : Ky a H H') (n : b ≠ a) (h : H' b = none) : H b = none := by
  cases q : H b with
  | none => rfl
  | some o => rw [e.of b o q n] at h; cases h
theorem DeckAt.same (s : Same H H') (h : DeckAt n H a) : DeckAt n H' a := by
  obtain ⟨x, f, c, e, r⟩ := h
  exact ⟨x, f, c, s _ _ e, r⟩
theorem DeckAt.mono (h : DeckAt n H a) (l : n ≤ m) : DeckAt m H a := by
  obtain ⟨x, f, c, e, r0, r1⟩ := h
  exact ⟨x, f, c, e, r0, by omega⟩
theorem DeckAt.ne (h : DeckAt n H a) (q : H p = none) : p ≠ a := by
  obtain ⟨x, f, c, e, _⟩ := h
  exact fun z => by rw [z, e] at q; cases q
theorem DeckAt.ky (h : DeckAt n H a) (s : Same H H') : DeckAt n H' a := h.same s
theorem seqKy (e : Ky a H H') (n : p ≠ a) (h : SqL K H p xs) : SqL K H' p xs := by
  rcases h with (h | ⟨o, h⟩) | h
  · exact .inl (.inl (e.of _ _ h n))
  · exact .inl (.inr ⟨o, e.of _ _ h n⟩)
  · exact .inr h
theorem ky_put {x : HO} : Ky a H (upd H a x) := ⟨fun b o h n => by rw [upd_ne n]; exact h⟩
end
def spTk : L2.Sp := fun vs H Q _ => ∃ (n : Nat) (a : Addr) (m : Int), vs = [.ref a, .int m] ∧ DeckAt n H a ∧ n ≤ 80000 ∧ 0 < m ∧ m < 2 ^ 62 ∧ ∀ r H', Ky a H H' → DeckAt (n + 1) H' a → 0 ≤ r → r < m → Q (.int r) H'
def spDk : L2.Sp := fun vs H Q _ => ∃ (c k : Int), vs = [.int c, .int k] ∧ 0 ≤ k ∧ k ≤ 10 ∧ ∀ (a : Addr) H', Same H H' → H a = none → DeckAt 10 H' a → Q (.ref a) H'
def SmallT (n : Int) : Prop := -1000000000000000 ≤ n ∧ n ≤ 1000000000000000
theorem SmallT.abs {n : Int} (h : SmallT n) : n.natAbs < 10 ^ 16 := by
  have h1 := h.1
  have h2 := h.2
  have e : (10 : Nat) ^ 16 = 10000000000000000 := by decide
  omega
theorem SmallT.log {n : Int} (h : SmallT n) : n.natAbs.log2 < 1920 := by
  by_cases c : n.natAbs = 0
  · rw [c]
    decide
  · rw [Nat.log2_lt c]
    refine Nat.lt_of_lt_of_le (m := 2 ^ 50) ?_ (Nat.pow_le_pow_right (by decide) (by decide))
    have h1 := h.1
    have h2 := h.2
    have e : (2 : Nat) ^ 50 = 1125899906842624 := by decide
    omega
def spNumK : L2.Sp := fun vs H Q _ => ∃ (n : Nat) (a : Addr), vs = [.ref a] ∧ DeckAt n H a ∧ n ≤ 70000 ∧ ∀ v H', Ky a H H' → DeckAt (n + 3) H' a → SmallT v → Q (.int v) H'
def spRowK : L2.Sp := fun vs H Q _ => ∃ (n : Nat) (a : Addr) (m : Nat), vs = [.ref a, .int (m : Int)] ∧ DeckAt n H a ∧ n ≤ 10000 ∧ m ≤ 300 ∧ ∀ (p : Addr) (ns : List Int) H', Ky a H H' → H p = none → H' p = some (.lst (ns.map V.int)) → DeckAt (n + 3 * m + 3) H' a → ns.length ≤ m + 3 → Fine ns → Q (.ref p) H'
def spShown (K : PySem.W.Frag) : L2.Sp := fun vs H Q _ => ∃ (p : Addr) (ns : List Int), vs = [.ref p] ∧ SqL K H p (ns.map V.int) ∧ (∀ n ∈ ns, SmallT n) ∧ ns.length ≤ 1000 ∧ ∀ H', Same H H' → Q (.str (Tx.rowText ns)) H'
def optV : Option Int → V
  | some v => .int v
  | none => .non
def spWrit : L2.Sp := fun vs H Q _ => ∃ (x : Str) (m : Int), vs = [.str x, .int m] ∧ 0 ≤ m ∧ m ≤ 40 ∧ x.length ≤ 100000 ∧ Q (optV (Tx.writ x m)) H
def spRead (K : PySem.W.Frag) : L2.Sp := fun vs H Q _ => ∃ (ns : List Int), vs = [.str (Tx.rowText ns)] ∧ (∀ n ∈ ns, SmallT n) ∧ ns.Pairwise (· ≤ ·) ∧ ns.length ≤ 1000 ∧ ∀ (r : Addr) H', Same H H' → H r = none → H' r = some (.lst (ns.map V.int)) → Q (.ref r) H'
theorem Fine.smallT {ns : List Int} (f : Fine ns) : ∀ n ∈ ns, SmallT n := fun n h => f.2 n h
end Sp
namespace Sp
open PySem L2
/-- a text and its row, held in the list l -/
def EntT (l : Addr) (H : Hp) (e : Addr) : Prop := ∃ (ns : List Int) (p : Addr), H e = some (.tup [.str (Tx.rowText ns), .ref p]) ∧ H p = some (.lst (ns.map V.int)) ∧ p ≠ l ∧ Fine ns ∧ ns.length ≤ 400
theorem EntT.kp {l e : Addr} {H H' : Hp} (k : Kp l H H') (n : ∃ xs, H l = some (.lst xs)) (h : EntT l H e) : EntT l H' e := by
  obtain ⟨ns, p, e1, e2, np, f, ln⟩ := h
  obtain ⟨xs, el⟩ := n
  exact ⟨ns, p, k _ _ e1 (fun z => by rw [z, el] at e1; cases e1), k _ _ e2 np, np, f, ln⟩
end Sp

/-! texts of any kind, read and refused: k54. -/
namespace Ty
open PySem PySem.Spec PySem.NumText PyProof.Rows L2
theorem size_rep (a : Array Nat) : ∀ (k : Nat) (b : Array Nat), ((List.replicate k a).foldl (· ++ ·) b).size = b.size + a.size * k
  | 0, b => by simp
  | k + 1, b => by
    rw [List.replicate_succ, List.foldl_cons, size_rep a k, Array.size_append, Nat.mul_succ]
    omega
/-- a short text, some times over -/
theorem op_mul_str {X : Cx} : OpR X (binaryOp .Mult) (fun x y H Q => ∃ (z : Str) (n : Int), x = .str z ∧ y = .int n ∧ 1 < n ∧ n ≤ 1000 ∧ z.length = 1 ∧ ∀ w : Str, (w.length : Int) ≤ n → Q (.str w) H) := by
  intro pins s σ H x y v u Q I rx ry h
  obtain ⟨z, n, rfl, rfl, h1, h2, hz, q⟩ := h
  obtain ⟨t, rfl⟩ := rx
  obtain ⟨t', rfl⟩ := ry
  have hk : 1 * n.toNat ≤ 1000 := by omega
  refine PySem.P.mul_str ?_ (fun _ _ => ?_) (fun _ _ => ?_) ?_
  · have e1 : decide (n < -(2 ^ 63 : Int)) = false := decide_eq_false (by omega)
    have e2 : decide (n ≥ 2 ^ 63) = false := decide_eq_false (by omega)
    rw [e1, e2, Bool.or_false]
  · rw [hz]
    have : (1000 : Int) ≤ (2 ^ 63 - 1) / n := by
      refine (Int.le_ediv_iff_mul_le (by omega)).mpr ?_
      have : (1000 : Int) * n ≤ 1000 * 1000 := by omega
      omega
    omega
  · rw [hz]
    exact decide_eq_false (Nat.not_lt.mpr (Nat.le_trans hk (by decide)))
  · rw [if_neg (show ¬ n < 1 by omega), if_neg (by rw [hz]; simp; omega)]
    have hl : ((⟨(List.replicate n.toNat z.cps).foldl (· ++ ·) #[]⟩ : Str).length : Int) ≤ n := by
      show (((List.replicate n.toNat z.cps).foldl (· ++ ·) #[]).size : Int) ≤ n
      rw [size_rep]
      have : z.cps.size = 1 := hz
      rw [this]
      simp
      omega
    have h3 : (1000 : Nat) ≤ sizeLine := by decide
    exact ⟨by omega, ⟨.str _, H, I.tok _, ⟨_, rfl⟩, q _ hl⟩⟩
section
variable {X : Cx} {K : PySem.W.Frag} {o e : Expr} {es : List Expr} {to : TE} {t : TA} {name : Str} {apos cpos : Pos} {T id : String} {r : V → List V → Hp → VK → Prop}
/-- a method of a built-in object, where what is known of the code is named -/
theorem pe_bmK (hk : X.K = K) (pa : PlainAttrs T) (slot : Slot T name id) (ty : typeOf (.builtin id) = pure (.type "method_descriptor")) (hm : MtR X id r) (ho : PE X o to) (ha : PA X (e :: es) t)
    (h1 : attributeBase o name X.env (eval o X.env) = eval o X.env := by rfl)
    (h2 : ((backTo cpos (starEach (e :: es) X.env)).all (fun x => !x.1) && (backToKw cpos (keywordEach [] X.env)).all (fun x => x.1.isSome) && decide ((e :: es).length + ([] : List Keyword).length + (if ([] : List Keyword).isEmpty then 0 else 1) < 30)) = true := by rfl)
    (h3 : (apos.endLine == cpos.line) = true := by rfl) (h4 : starEach (e :: es) X.env = (false, eval e X.env) :: starEach es X.env := by rfl) (h5 : (backTo cpos (starEach es X.env)).any (·.1) = false := by rfl) : PE X (.Call (.Attribute o name apos) (e :: es) [] cpos) (tBM K T r to t) := by
  subst hk
  exact pe_bm pa slot ty hm ho ha h1 h2 h3 h4 h5
end
section
variable {X : Cx}
/-- isinstance of the exception that a suite holds -/
def rIsW (K : PySem.W.Frag) (cls : Value) (d : Option Addr) (a : Addr) : List V → Hp → VK → Prop := fun xs H Q => ∃ (D : Addr) (c : V) (b : Bool), cls = .ref D ∧ d = none ∧ ExcC K D ∧ xs = [.ref a, c] ∧
  ((∃ cv, (∀ u, RelV c u → u = cv) ∧ PySem.W.kitOne K (.ref D) cv = some b) ∨ (∃ (t : Addr) (cs : List V), c = .ref t ∧ H t = some (.tup cs) ∧ ∀ us, Vals cs us → PySem.W.kitAny K (.ref D) us = some b)) ∧ Q (.bl b) H
theorem call_isW {cls : Value} {d : Option Addr} {a : Addr} {oe : Obj} {pn : List (Addr × Obj)} (hz : Zc cls d oe) (hf : ∃ vs, oe.data = .fields vs) : CallR (X.suite a ((a, oe) :: pn)) (.builtin "isinstance") (rIsW X.K cls d a) := by
  intro pins z σ H xs us Q I r h
  obtain ⟨D, c, b, rfl, rfl, C, rfl, hc, q⟩ := h
  match r with
  | .cons ra (.cons rc .nil) =>
    cases ra
    obtain ⟨hget, _⟩ := I.pin (a, oe) (List.mem_append.mpr (.inl List.mem_cons_self))
    obtain ⟨vs, hv⟩ := hf
    have J : PySem.W.InstAt z.heap a oe D none := by
      obtain ⟨oc, od, oda, osl⟩ := oe
      obtain ⟨h1, h2⟩ := hz
      dsimp only at h1 h2 hv
      subst h1 h2 hv
      exact ⟨hget, rfl, rfl, trivial⟩
    have Z := PySem.W.handS_kitx_exc (x := a) (ox := oe) C.hg C.hk C.hs C.hd C.ha C.hn C.ht C.hm
    rcases hc with ⟨cv, one, e⟩ | ⟨t, cs, rfl, ht, all⟩
    · have ec := one _ rc
      subst ec
      exact PySem.W.kia_one Z I.kIn J e (fun w => nomatch w) fun tk => ⟨.bl b, H, I.kept (t' := tk) fun _ _ w => w, rfl, q⟩
    · cases rc
      obtain ⟨_, its, rv, o, ho, hcl, n, hd⟩ := I.hok t _ ht
      obtain ⟨oc, od, oda, osl⟩ := o
      dsimp only at hcl hd
      subst hcl hd
      exact PySem.W.kia_tup Z I.kIn J ho (by simpa using all its rv) (fun w => nomatch w) fun tk => ⟨.bl b, H, I.kept (t' := tk) fun _ _ w => w, rfl, q⟩
end
end Ty
namespace Tx
open PySem PySem.NumText PyProof.Rows
theorem fold_ge : ∀ (cs : List Nat) (a : Nat), a * 10 ^ cs.length ≤ cs.foldl (fun acc c => acc * 10 + (c - 48)) a
  | [], a => by simp
  | c :: cs, a => by
    have ih := fold_ge cs (a * 10 + (c - 48))
    rw [List.foldl_cons, List.length_cons, Nat.pow_succ]
    refine Nat.le_trans ?_ ih
    rw [Nat.mul_comm (10 ^ cs.length) 10, ← Nat.mul_assoc]
    exact Nat.mul_le_mul_right _ (by omega)
theorem fold_inj : ∀ (cs ds : List Nat) (a b : Nat), AllDigits cs → AllDigits ds → cs.length = ds.length → cs.foldl (fun acc c => acc * 10 + (c - 48)) a = ds.foldl (fun acc c => acc * 10 + (c - 48)) b → a = b ∧ cs = ds
  | [], [], a, b, _, _, _, h => ⟨h, rfl⟩
  | [], _ :: _, _, _, _, _, h, _ => by cases h
  | _ :: _, [], _, _, _, _, h, _ => by cases h
  | c :: cs, d :: ds, a, b, hc, hd, hl, h => by
    obtain ⟨h1, h2⟩ := fold_inj cs ds _ _ hc.tail hd.tail (by simpa using hl) h
    dsimp only at h1
    have r1 := hc.head
    have r2 := hd.head
    have h3 : c = d := by omega
    exact ⟨by omega, by rw [h3, h2]⟩
theorem dg_back {c : Nat} {r : List Nat} (h : AllDigits (c :: r)) (h0 : c ≠ 48) : dg (digitsVal (c :: r)) = c :: r := by
  have hc := h.head
  have g1 : 10 ^ r.length ≤ digitsVal (c :: r) := by
    have := fold_ge r (0 * 10 + (c - 48))
    refine Nat.le_trans ?_ this
    have : 1 * 10 ^ r.length ≤ (0 * 10 + (c - 48)) * 10 ^ r.length := Nat.mul_le_mul_right _ (by omega)
    rwa [Nat.one_mul] at this
  have g2 := val_lt h
  have l1 : (dg (digitsVal (c :: r))).length ≤ r.length + 1 := dg_len (by omega) (show digitsVal (c :: r) < 10 ^ (r.length + 1) from g2)
  have l2 : r.length + 1 ≤ (dg (digitsVal (c :: r))).length := by
    by_cases z : r.length = 0
    · have := List.length_pos_iff.mpr (dg_ne (digitsVal (c :: r)))
      omega
    · refine Nat.lt_of_not_le fun q => ?_
      rw [List.length_map] at q
      have := (Nat.length_toDigits_le_iff (b := 10) (k := r.length) (by decide) (by omega)).mp (by omega)
      omega
  exact (fold_inj _ _ 0 0 (dg_all _) h (Nat.le_antisymm l1 l2) (dg_val _)).2
theorem dg_zero {m : Nat} {r : List Nat} (h : dg m = 48 :: r) : m = 0 := by
  have a := dg_all m
  rw [h] at a
  have v := dg_val m
  rw [h] at v
  have v2 : digitsVal r = m := v
  have g := val_lt a.tail
  rw [v2] at g
  by_cases z : r.length = 0
  · rw [z] at g
    omega
  · have l := dg_len (m := m) (k := r.length) (by omega) g
    rw [h, List.length_cons] at l
    omega
abbrev zeroS : Str := "0"
theorem zero_eq : zeroS = ⟨#[48]⟩ := by decide +kernel
theorem sign_zero (c : Nat) : (⟨#[c]⟩ : Str) = zeroS ↔ c = 48 := by
  rw [zero_eq]
  constructor
  · intro h
    have h : #[c] = #[48] := congrArg Str.cps h
    simpa using h
  · intro h
    rw [h]
def figC (c : Nat) : Bool := decide (48 ≤ c ∧ c ≤ 57)
theorem figC_all (l : List Nat) : (l.map figC).all id = true ↔ AllDigits l := by
  rw [List.all_map, List.all_eq_true]
  exact ⟨fun h c hc => of_decide_eq_true (h c hc), fun h c hc => decide_eq_true (h c hc)⟩
theorem to_zero : toStr 0 = zeroS := by decide +kernel
/-- a nought ahead of other figures -/
theorem writ_nought {x : Str} {m : Int} {r : List Nat} (h : (figs x).cps.toList = 48 :: r) (n : x ≠ zeroS) : writ x m = none := by
  cases e : writ x m with
  | none => rfl
  | some v =>
    exfalso
    have t := writ_num e
    rw [← t, figs_int] at h
    have v0 : v = 0 := by have := dg_zero h; omega
    rw [v0, to_zero] at t
    exact n t.symm
theorem writ_bad {x : Str} {m : Int} (h : ¬ AllDigits (figs x).cps.toList) : writ x m = none := by
  unfold writ
  rw [if_neg]
  intro z
  exact h ((good_iff x).mp z.1).1
theorem writ_none {x : Str} {m : Int} (h : (figs x).length = 0) : writ x m = none := by
  unfold writ
  rw [if_neg]
  intro z
  have := ((good_iff x).mp z.1).2
  rw [← len_cps, List.length_eq_zero_iff] at h
  exact this h
theorem writ_far {x : Str} {m : Int} (h : m < ((figs x).length : Int)) : writ x m = none := by
  unfold writ
  rw [if_neg]
  intro z
  have := z.2
  omega
theorem writ_some {x : Str} {m : Int} {c : Nat} {r : List Nat} (h : (figs x).cps.toList = c :: r) (hd : AllDigits (figs x).cps.toList) (hl : ((figs x).length : Int) ≤ m) (h0 : c ≠ 48 ∨ x = zeroS) : writ x m = some (valOf x) := by
  have g : good x = true := (good_iff x).mpr ⟨hd, by rw [h]; exact List.cons_ne_nil _ _⟩
  unfold writ
  rw [if_pos ⟨g, hl⟩, if_pos]
  by_cases hz : x = zeroS
  · rw [hz]
    decide +kernel
  have c0 : c ≠ 48 := h0.resolve_right hz
  rw [h] at hd
  have b := dg_back hd c0
  have e := figs_cps x
  rw [h] at e
  refine str_ext ?_
  unfold valOf
  split at e
  · rename_i r' q
    rw [q]
    show (toStr (-((digitsVal r' : Nat) : Int))).cps.toList = _
    rw [← e] 
    have pos : 0 < digitsVal (c :: r) := by
      refine Nat.pos_of_ne_zero fun z => ?_
      rw [z] at b
      have b0 : dg 0 = [48] := by decide
      rw [b0] at b
      exact c0 (List.cons.inj b).1.symm
    rw [cps_neg pos, b]
  · rename_i n
    rw [← e, cps_nat, b]
/-! a word's figures, by slices -/
theorem pre_minus (x : Str) : Txt.slice x none (some 1) = minus ↔ ∃ r, x.cps.toList = 45 :: r := by
  have h : Txt.slice (SX.S x.cps.toList) none (some 1) = SX.S (x.cps.toList.take 1) := SX.slice_to (by decide)
  rw [SX.S_tl] at h
  rw [h, minus_eq]
  constructor
  · intro e
    have e : x.cps.toList.take 1 = [45] := congrArg (fun z : Str => z.cps.toList) e
    cases q : x.cps.toList with
    | nil => rw [q] at e; cases e
    | cons a r =>
      rw [q] at e
      have : a = 45 := by simpa using e
      exact ⟨r, by rw [this]⟩
  · rintro ⟨r, e⟩
    rw [e]
    rfl
theorem figs_slice {x : Str} (h : Txt.slice x none (some 1) = minus) : Txt.slice x (some 1) none = figs x := by
  obtain ⟨r, e⟩ := (pre_minus x).mp h
  have h2 : Txt.slice (SX.S x.cps.toList) (some 1) none = SX.S (x.cps.toList.drop 1) := SX.slice_from (by decide)
  rw [SX.S_tl] at h2
  rw [h2]
  refine str_ext ?_
  rw [figs_cps, e]
  rfl
theorem figs_same {x : Str} (h : Txt.slice x none (some 1) ≠ minus) : figs x = x := by
  refine str_ext ?_
  rw [figs_cps]
  split
  · rename_i r e
    exact absurd ((pre_minus x).mpr ⟨r, e⟩) h
  · rfl
abbrev tenS : Str := "0123456789"
theorem ten_mem (c : Nat) : c ∈ tenS.cps.toList ↔ 48 ≤ c ∧ c ≤ 57 := by
  have e : tenS.cps.toList = [48, 49, 50, 51, 52, 53, 54, 55, 56, 57] := by decide +kernel
  rw [e]
  simp only [List.mem_cons, List.not_mem_nil, or_false]
  omega
theorem ten_fig (c : Nat) : decide (c ∈ tenS.cps.toList) = figC c := by
  unfold figC
  rw [decide_eq_decide]
  exact ten_mem c
/-- the row that a text writes -/
def rowIn (x : Str) : Option (List Int) := if x = minus then some [] else match writAll 16 (Txt.split x blankS) with
  | some ns => if ns.Pairwise (· ≤ ·) then some ns else none
  | none => none
theorem writAll_iff : ∀ {xs : List Str} {ns : List Int}, writAll 16 xs = some ns ↔ xs.map (fun x => writ x 16) = ns.map some
  | [], ns => by
    unfold writAll
    cases ns <;> simp
  | x :: xs, ns => by
    unfold writAll
    cases e : writ x 16 with
    | none =>
      cases ns <;> simp [e]
    | some v =>
      cases e2 : writAll 16 xs with
      | none =>
        constructor
        · intro h; cases h
        · intro h
          cases ns with
          | nil => cases h
          | cons n ns =>
            have := (List.cons.inj h).2
            rw [← writAll_iff, e2] at this
            cases this
      | some vs =>
        cases ns with
        | nil => simp
        | cons n ns =>
          have := writAll_iff (xs := xs) (ns := ns)
          rw [e2] at this
          simp only [List.map_cons, List.cons.injEq, e, Option.some.injEq] at this ⊢
          rw [this]
theorem writAll_none {xs : List Str} (h : writAll 16 xs = none) : ∃ x ∈ xs, writ x 16 = none := by
  induction xs with
  | nil => cases h
  | cons x xs ih =>
    cases e : writ x 16 with
    | none => exact ⟨x, List.mem_cons_self, e⟩
    | some v =>
      unfold writAll at h
      rw [e] at h
      cases e2 : writAll 16 xs with
      | none =>
        obtain ⟨y, hy, ey⟩ := ih e2
        exact ⟨y, List.mem_cons_of_mem _ hy, ey⟩
      | some vs => rw [e2] at h; cases h
theorem rowIn_minus {x : Str} (h : x = minus) : rowIn x = some [] := by
  unfold rowIn
  rw [if_pos h]
theorem writ_small {x : Str} {v : Int} (h : writ x 16 = some v) : v.natAbs < 10 ^ 16 := by
  unfold writ at h
  split at h
  · rename_i g
    split at h
    · cases h
      refine Nat.lt_of_lt_of_le (valOf_lt g.1) (Nat.pow_le_pow_right (by decide) ?_)
      have := g.2
      omega
    · cases h
  · cases h
theorem writAll_small {xs : List Str} {ns : List Int} (h : writAll 16 xs = some ns) : ∀ n ∈ ns, n.natAbs < 10 ^ 16 := by
  intro n hn
  have e := writAll_iff.mp h
  have : some n ∈ xs.map (fun x => writ x 16) := by rw [e]; exact List.mem_map.mpr ⟨n, hn, rfl⟩
  obtain ⟨x, _, ex⟩ := List.mem_map.mp this
  exact writ_small ex
theorem writAll_len {xs : List Str} {ns : List Int} (h : writAll 16 xs = some ns) : ns.length = xs.length := by
  have e := congrArg List.length (writAll_iff.mp h)
  rw [List.length_map, List.length_map] at e
  exact e.symm
end Tx
namespace Tx
open PySem PySem.NumText PyProof.Rows
def blanks (x : Str) : Nat := x.cps.toList.count 32
theorem blanks_app (x y : Str) : blanks (x ++ y) = blanks x + blanks y := by
  show (x.cps ++ y.cps).toList.count 32 = _
  rw [Array.toList_append, List.count_append]
  rfl
theorem blanks_len (x : Str) : blanks x ≤ x.length := by
  rw [← len_cps]
  exact List.count_le_length
theorem blanks_slice (x : Str) (lo hi : Option Int) : blanks (Txt.slice x lo hi) ≤ blanks x := by
  rw [← C8.cutS_slice]
  exact ((List.take_sublist _ _).trans (List.drop_sublist _ _)).count_le _
theorem blanks_free {x : Str} (h : 32 ∉ x.cps.toList) : blanks x = 0 := List.count_eq_zero.mpr h
def totB : List Str → Nat
  | [] => 0
  | x :: xs => blanks x + totB xs
theorem totB_app (xs ys : List Str) : totB (xs ++ ys) = totB xs + totB ys := by
  induction xs with
  | nil => simp [totB]
  | cons x xs ih => show blanks x + totB (xs ++ ys) = blanks x + totB xs + totB ys; omega
theorem totB_free {xs : List Str} (h : ∀ p ∈ xs, 32 ∉ p.cps.toList) : totB xs = 0 := by
  induction xs with
  | nil => rfl
  | cons x xs ih =>
    show blanks x + totB xs = 0
    rw [blanks_free (h x List.mem_cons_self), ih fun p hp => h p (List.mem_cons_of_mem _ hp)]
theorem blanks_join : ∀ {A : List Str}, A ≠ [] → blanks (Str.join blankS A) + 1 = totB A + A.length
  | [], h => absurd rfl h
  | [a], _ => rfl
  | a :: b :: r, _ => by
    have ih := blanks_join (A := b :: r) (List.cons_ne_nil _ _)
    have e := congrArg (fun l : List Nat => l.count 32) (join_cps a b r)
    rw [List.count_append, List.count_cons] at e
    have e1 : blanks (Str.join blankS (a :: b :: r)) = blanks a + (blanks (Str.join blankS (b :: r)) + 1) := e
    rw [e1]
    show _ = blanks a + totB (b :: r) + ((b :: r).length + 1)
    omega
theorem split_blanks (x : Str) : (Txt.split x blankS).length = blanks x + 1 := by
  have h := blanks_join (split_ne x)
  rw [show Str.join blankS (Txt.split x blankS) = x from StrLaws.join_split _ _, totB_free (split_free x)] at h
  omega
theorem row_blanks (ns : List Int) : blanks (rowText ns) ≤ ns.length := by
  unfold rowText
  split
  · rename_i e
    rw [e]
    decide +kernel
  · rename_i e
    have h := blanks_join (A := ns.map toStr) (by simpa using e)
    rw [totB_free fun p hp => by
      obtain ⟨n, _, rfl⟩ := List.mem_map.mp hp
      exact free n, List.length_map] at h
    omega
theorem log_16 {n : Int} (h : n.natAbs < 10 ^ 16) : n.natAbs.log2 < 60 := by
  by_cases c : n.natAbs = 0
  · rw [c]
    decide
  · rw [Nat.log2_lt c]
    exact Nat.lt_of_lt_of_le h (by decide)
end Tx
namespace Gd
open PySem L2 Sp PyProof.Rows
theorem shown_more {ns : List Int} (hl : ns.length ≤ 3500) (h : ∀ n ∈ ns, n.natAbs.log2 < 60) : (di ns).showable = true ∧ (di ns).hasDict = false ∧ (di ns).shown.length ≤ sizeLine ∧ (di ns).depth ≤ 60 := by
  obtain ⟨h1, h2, h3⟩ := show_ints ns h
  have s : (di ns).shown.length ≤ sizeLine := by
    have := PyData.shown_le 61 (by decide) (di ns) (by rw [PyData.leavesShort]; exact h2)
    rw [PyData.weight] at this
    have e : sizeLine = 16777216 := by decide
    omega
  exact ⟨by rw [PyData.showable]; exact h1, PyData.hasDict_of_canLay _ (by rw [PyData.canLay0]; exact lay_ints ns), s, by rw [PyData.depth, dep_ints]; decide⟩
end Gd
namespace Sp
open PySem L2
/-- what the top has written of the error that no text raises -/
structure Rtx (K : PySem.W.Frag) (mg : Str → Option Value) (CP C1 C2 C3 C4 CS : Addr) : Prop where
  gS : mg "SumError" = some (.ref CS)
  gC : mg "NoText" = some (.ref C4)
  g1 : mg "NoCommand" = some (.ref C1)
  g2 : mg "NoSide" = some (.ref C2)
  g3 : mg "NoNumber" = some (.ref C3)
  gP : mg "NoPlace" = some (.ref CP)
  xC : PySem.W.excIn K C4 [.type "ValueError", .type "Exception", .type "BaseException", .type "object"] "ValueError.__new__" = true
  kC : PySem.W.keepIn K (.ref C4) = true
  bC : PySem.W.subIn K (.ref C4) (.type "BaseException") = some true
  tC : PySem.W.typeIn K (.ref C4) = some (.type "type")
  eC : PySem.W.exmOne K (.ref C4) (.ref CS) = some true
  is : ExcC K C4
  no : PySem.W.kitAny K (.ref C4) [.ref C1, .ref C3, .ref CP, .ref C2] = some false
  yes : PySem.W.kitOne K (.ref C4) (.ref C4) = some true
  val : PySem.W.kitOne K (.ref C4) (.type "ValueError") = some true
def spReadT (K : PySem.W.Frag) : L2.Sp := fun vs H Q _ => ∃ (x : Str) (ns : List Int), vs = [.str x] ∧ x.length ≤ 60000 ∧ Tx.rowIn x = some ns ∧ ∀ (r : Addr) H', Same H H' → H r = none → H' r = some (.lst (ns.map V.int)) → Q (.ref r) H'
def spReadTR (C : Addr) : L2.Sp := fun vs H _ E => ∃ (x : Str), vs = [.str x] ∧ x.length ≤ 60000 ∧ Tx.rowIn x = none ∧ ∀ H', Same H H' → E (.ref C) none H'
def spNumIn : L2.Sp := fun vs H Q _ => ∃ (x : Str), vs = [.str x] ∧ x.length ≤ 60000 ∧ ∀ H', Same H H' → Q (optV (Tx.writ x 16)) H'
def spRowInT : L2.Sp := fun vs H Q _ => ∃ (x : Str), vs = [.str x] ∧ x.length ≤ 60000 ∧ (∀ (ns : List Int) (r : Addr) H', Tx.rowIn x = some ns → Same H H' → H' r = some (.lst (ns.map V.int)) → Q (.ref r) H') ∧ (Tx.rowIn x = none → ∀ H', Same H H' → Q .non H')
def spBadT : L2.Sp := fun vs H Q _ => ∃ (n : Nat) (a : Addr), vs = [.ref a] ∧ DeckAt n H a ∧ n ≤ 70000 ∧ ∀ (x : Str) H', x.length ≤ 1000 → Ky a H H' → DeckAt (n + 3) H' a → Q (.str x) H'
def spSpoilt : L2.Sp := fun vs H Q _ => ∃ (n : Nat) (a : Addr) (x : Str), vs = [.ref a, .str x] ∧ DeckAt n H a ∧ n ≤ 60000 ∧ x.length ≤ 4000 ∧ Tx.blanks x ≤ 400 ∧ ∀ (y : Str) H', y.length ≤ 30000 → Tx.blanks y ≤ 3000 → Ky a H H' → DeckAt (n + 10) H' a → Q (.str y) H'
def spRightT : L2.Sp := fun vs H Q _ => ∃ (x : Str), vs = [.str x] ∧ x.length ≤ 60000 ∧ Tx.blanks x ≤ 3000 ∧ ∀ H', Same H H' → Q (.bl true) H'
end Sp
namespace Tx
open PySem PySem.NumText PyProof.Rows
/-- how many signs words have together -/
def tot : List Str → Nat
  | [] => 0
  | x :: xs => x.length + tot xs
theorem tot_sum (xs : List Str) : (xs.map (·.length)).sum = tot xs := by
  induction xs with
  | nil => rfl
  | cons x xs ih => rw [List.map_cons, List.sum_cons, ih]; rfl
theorem tot_app (xs ys : List Str) : tot (xs ++ ys) = tot xs + tot ys := by
  induction xs with
  | nil => simp [tot]
  | cons x xs ih => show x.length + tot (xs ++ ys) = x.length + tot xs + tot ys; omega
theorem tot_mem {x : Str} {xs : List Str} (h : x ∈ xs) : x.length ≤ tot xs := by
  induction xs with
  | nil => cases h
  | cons y xs ih =>
    show x.length ≤ y.length + tot xs
    rcases List.mem_cons.mp h with rfl | h
    · omega
    · have := ih h
      omega
theorem tot_sub {xs ys : List Str} (h : xs.Sublist ys) : tot xs ≤ tot ys := by
  induction h with
  | slnil => exact Nat.le_refl _
  | @cons l1 l2 a _ ih => show tot l1 ≤ a.length + tot l2; omega
  | @cons_cons l1 l2 a _ ih => show a.length + tot l1 ≤ a.length + tot l2; omega
theorem join_tot : ∀ {A : List Str}, A ≠ [] → tot A + A.length = (Str.join blankS A).length + 1
  | [], h => absurd rfl h
  | [a], _ => rfl
  | a :: b :: r, _ => by
    have ih := join_tot (A := b :: r) (List.cons_ne_nil _ _)
    have e := congrArg List.length (join_cps a b r)
    rw [len_cps, List.length_append, List.length_cons, len_cps, len_cps] at e
    rw [e]
    show a.length + tot (b :: r) + ((b :: r).length + 1) = _
    omega
theorem split_tot (x : Str) : tot (Txt.split x blankS) + (Txt.split x blankS).length = x.length + 1 := by
  rw [join_tot (split_ne x), show Str.join blankS (Txt.split x blankS) = x from StrLaws.join_split _ _]
theorem join_len (A : List Str) : (Txt.join blankS A).length ≤ tot A + A.length := by
  rw [join_eq]
  by_cases h : A = []
  · rw [h]
    decide +kernel
  · rw [join_tot h]
    omega
theorem slice_len (x : Str) (lo hi : Option Int) : (Txt.slice x lo hi).length ≤ x.length := by
  rw [← C8.cutS_slice, ← len_cps, ← len_cps]
  show ((x.cps.toList.drop _).take _).length ≤ _
  exact Nat.le_trans (List.length_take_le' _ _) (by rw [List.length_drop]; omega)
/-- a piece of a list of words -/
theorem cut_words (ws : List Str) (lo hi : Option Int) : ∃ us : List Str, L2.cutV (ws.map L2.V.str) lo hi = us.map L2.V.str ∧ us.Sublist ws := by
  refine ⟨(ws.drop (HT.sIx ws.length 0 lo)).take (HT.sIx ws.length ws.length hi - HT.sIx ws.length 0 lo), ?_, ?_⟩
  · unfold L2.cutV
    rw [List.length_map, List.map_take, List.map_drop]
  · exact (List.take_sublist _ _).trans (List.drop_sublist _ _)
end Tx
namespace Sp
open PySem L2
theorem opt_row {ws : List Str} {ns : List Int} (h : Tx.writAll 16 ws = some ns) : ws.map (fun x => optV (Tx.writ x 16)) = ns.map V.int := by
  have e := congrArg (List.map optV) (Tx.writAll_iff.mp h)
  rw [List.map_map, List.map_map] at e
  exact e
theorem opt_no {ws : List Str} (h : Tx.writAll 16 ws = none) : V.non ∈ ws.map (fun x => optV (Tx.writ x 16)) := by
  obtain ⟨x, hx, e⟩ := Tx.writAll_none h
  exact List.mem_map.mpr ⟨x, hx, by rw [e]; rfl⟩
theorem no_row {xs : List V} (h : V.non ∈ xs) : ¬ IsRow xs := by
  rintro ⟨ns, rfl, _⟩
  obtain ⟨n, _, e⟩ := List.mem_map.mp h
  cases e
/-- the row of a text that isn't the sign alone -/
theorem rowIn_else {x : Str} (h : x ≠ Tx.minus) : Tx.rowIn x = (match Tx.writAll 16 (Txt.split x Tx.blankS) with
  | some ns => if ns.Pairwise (· ≤ ·) then some ns else none
  | none => none) := by
  unfold Tx.rowIn
  rw [if_neg h]
end Sp
namespace Sp
open PySem L2
theorem rowIn_all {x : Str} {ns : List Int} (h : Tx.rowIn x = some ns) : ns.length ≤ Tx.blanks x + 1 ∧ ∀ n ∈ ns, n.natAbs.log2 < 60 := by
  by_cases z : x = Tx.minus
  · rw [Tx.rowIn_minus z] at h
    cases h
    exact ⟨Nat.zero_le _, fun _ h => nomatch h⟩
  · rw [rowIn_else z] at h
    cases hm : Tx.writAll 16 (Txt.split x Tx.blankS) with
    | none => rw [hm] at h; cases h
    | some ms =>
      rw [hm] at h
      dsimp only at h
      by_cases c : ms.Pairwise (· ≤ ·)
      · rw [if_pos c] at h
        cases h
        exact ⟨Nat.le_of_eq (by rw [Tx.writAll_len hm, Tx.split_blanks]), fun n hn => Tx.log_16 (Tx.writAll_small hm n hn)⟩
      · rw [if_neg c] at h
        cases h
end Sp
namespace Tx
open PySem
theorem app_len (x y : Str) : (x ++ y).length = x.length + y.length := Array.size_append
theorem totB_sub {xs ys : List Str} (h : xs.Sublist ys) : totB xs ≤ totB ys := by
  induction h with
  | slnil => exact Nat.le_refl _
  | @cons l1 l2 a _ ih => show totB l1 ≤ blanks a + totB l2; omega
  | @cons_cons l1 l2 a _ ih => show blanks a + totB l1 ≤ blanks a + totB l2; omega
theorem join_blanks (A : List Str) : blanks (Txt.join blankS A) ≤ totB A + A.length := by
  rw [join_eq]
  by_cases h : A = []
  · rw [h]
    decide +kernel
  · have := blanks_join h
    omega
end Tx

namespace Sp
open PySem L2
def top (i : Nat) : Stmt := PySem.Challenge.pw_sumplace_k54_texts_of_no_row.main.body.getD i (.Pass ⟨0, 0, 0, 0⟩)
abbrev sis_whole : Stmt := top 8
abbrev sis_row : Stmt := top 9
abbrev sread_row : Stmt := top 12
abbrev swritten_number : Stmt := top 13
abbrev slaw_cell_at : Stmt := top 15
abbrev slaw_take : Stmt := top 16
abbrev slaw_deck : Stmt := top 17
abbrev slaw_number : Stmt := top 18
abbrev slaw_row : Stmt := top 19
abbrev slaw_bad : Stmt := top 20
abbrev slaw_spoilt : Stmt := top 21
abbrev slaw_number_in : Stmt := top 22
abbrev slaw_row_in : Stmt := top 23
abbrev slaw_right : Stmt := top 24
abbrev slaw : Stmt := top 25
theorem scis_whole : FnScope ["thing"] ["thing"] (defScope sis_whole) := ⟨rfl, rfl, rfl, by decide +kernel, rfl, by decide +kernel, by decide +kernel⟩
theorem scis_row : FnScope ["thing", "at", "number"] ["thing"] (defScope sis_row) := ⟨rfl, rfl, rfl, by decide +kernel, rfl, by decide +kernel, by decide +kernel⟩
theorem scread_row : FnScope ["text", "word", "row"] ["text"] (defScope sread_row) := ⟨rfl, rfl, rfl, by decide +kernel, rfl, by decide +kernel, by decide +kernel⟩
theorem scwritten_number : FnScope ["word", "most", "figures", "number"] ["word", "most"] (defScope swritten_number) := ⟨rfl, rfl, rfl, by decide +kernel, rfl, by decide +kernel, by decide +kernel⟩
theorem sclaw_cell_at : FnScope ["script", "k"] ["script", "k"] (defScope slaw_cell_at) := ⟨rfl, rfl, rfl, by decide +kernel, rfl, by decide +kernel, by decide +kernel⟩
theorem sclaw_take : FnScope ["deck", "many", "come", "number"] ["deck", "many"] (defScope slaw_take) := ⟨rfl, rfl, rfl, by decide +kernel, rfl, by decide +kernel, by decide +kernel⟩
theorem sclaw_deck : FnScope ["cell", "k"] ["cell", "k"] (defScope slaw_deck) := ⟨rfl, rfl, rfl, by decide +kernel, rfl, by decide +kernel, by decide +kernel⟩
theorem sclaw_number : FnScope ["deck", "size", "far"] ["deck"] (defScope slaw_number) := ⟨rfl, rfl, rfl, by decide +kernel, rfl, by decide +kernel, by decide +kernel⟩
theorem sclaw_row : FnScope ["deck", "most", "k", "row"] ["deck", "most"] (defScope slaw_row) := ⟨rfl, rfl, rfl, by decide +kernel, rfl, by decide +kernel, by decide +kernel⟩
theorem sclaw_bad : FnScope ["deck", "some", "odd"] ["deck"] (defScope slaw_bad) := ⟨rfl, rfl, rfl, by decide +kernel, rfl, by decide +kernel, by decide +kernel⟩
theorem sclaw_spoilt : FnScope ["deck", "text", "way", "at", "sign", "words", "last"] ["deck", "text"] (defScope slaw_spoilt) := ⟨rfl, rfl, rfl, by decide +kernel, rfl, by decide +kernel, by decide +kernel⟩
theorem sclaw_number_in : FnScope ["word", "figures", "figure"] ["word"] (defScope slaw_number_in) := ⟨rfl, rfl, rfl, by decide +kernel, rfl, by decide +kernel, by decide +kernel⟩
theorem sclaw_row_in : FnScope ["text", "word", "row"] ["text"] (defScope slaw_row_in) := ⟨rfl, rfl, rfl, by decide +kernel, rfl, by decide +kernel, by decide +kernel⟩
theorem sclaw_right : FnScope ["text", "found", "kinds", "e", "due"] ["text"] (defScope slaw_right) := ⟨rfl, rfl, rfl, by decide +kernel, rfl, by decide +kernel, by decide +kernel⟩
theorem sclaw : FnScope ["script", "cell", "deck", "row", "number", "text"] ["script"] (defScope slaw) := ⟨rfl, rfl, rfl, by decide +kernel, rfl, by decide +kernel, by decide +kernel⟩
end Sp

namespace Sp
open PySem L2
section
variable {P : Program} {w : World} {K : PySem.W.Frag} {mg : Str → Option Value} {base : Heap}
local macro_rules | `(tactic| walk_at "side") => `(tactic| first
  | exact mulW (by omega) (by omega) (by omega) (by omega)
  | exact divW (by omega) (by omega)
  | exact mulW (by decide +kernel) (by decide +kernel) (by decide +kernel) (by decide +kernel)
  | (show CPow _ _; exact ⟨by decide, by decide, by decide⟩)
  | (show (0 : Int) < _; omega)
  | exact small (Nat.le_of_ble_eq_true rfl)
  | decide
  | omega
  | exact Pr.divG (by omega) (by omega) (by omega))
local macro_rules | `(tactic| walk_at "ne") => `(tactic| first | assumption | exact ne_of_none (by assumption) (by assumption) | exact Ne.symm (by assumption))
local macro_rules | `(tactic| walk_at "get") => `(tactic| first | assumption | exact upd_same | (refine (by assumption : Same _ _) _ _ ?_; walk_at "get") | (refine Ext.keep (by assumption) _ _ ?_ (by walk_at "ne"); walk_at "get"))
local macro_rules | `(tactic| walk_at "sq") => `(tactic| first | assumption | exact SqL.new (by walk_at "get") | exact Or.inl (Or.inl (by walk_at "get")) | (refine Same.seq (by assumption) ?_; walk_at "sq") | (refine seqExt (by assumption) (by walk_at "ne") ?_; walk_at "sq"))
local macro_rules | `(tactic| walk_at "hand") => `(tactic| first | assumption | (refine HandAt.same (by assumption) ?_; walk_at "hand") | (refine Ext.hand (by assumption) ?_; walk_at "hand"))
local macro_rules | `(tactic| walk_at "at") => `(tactic| first | exact at0 | exact at1)
local macro_rules | `(tactic| walk_at "s") => `(tactic| first
  | refine ⟨_, rfl, ?_⟩
  | refine ⟨_, _, rfl, rfl, ?_⟩
  | refine ⟨_, _, _, _, rfl, rfl, (by walk_at "sq"), (by walk_at "at"), ?_⟩
  | refine ⟨_, _, _, _, rfl, rfl, (by first | assumption | exact upd_same), rfl, ?_⟩
  | refine And.intro (by walk_at "side") ?_)
local macro_rules | `(tactic| walk_at "pos") => `(tactic| first | omega | decide | (show (0 : Int) < _; decide +kernel) | (show _ < (2 ^ 62 : Int); decide +kernel) | (show (0 : Int) < _; omega))

theorem ok_dk {f : Addr} {fd : FuncData} (F : Fun K "_law_deck" "_law_deck" slaw_deck f fd) : FnOk P w K mg base CX0 1 f fd ["cell", "k"] spDk := by
  have nd := sclaw_deck.nd
  refine F.ok sclaw_deck (fun vs H Q E h => ?_) (fun cdv A outer s H vs Q E hr h => ?_)
  · obtain ⟨c, k, rfl, _⟩ := h
    rfl
  · obtain ⟨c, k, rfl, k0, k1, q⟩ := h
    refine ⟨_, (pss_cons (ps_if (pt_cmpR op_ge (pv 0) (pe_op op_pow pe_int pe_int) (nomark _)) (pss_one (ps_ret (pe_lst (pa_cons (pe_op op_sub (pv 0) (pe_op op_pow pe_int pe_int)) (pa_cons pe_int (pa_cons (pv 1) pa_nil)))))) pss_nil)
      (pss_one (ps_ret (pe_lst (pa_cons (pv 0) (pa_cons pe_int (pa_cons (pv 1) pa_nil))))))), ?_⟩
    repeat walk_at "s"
    refine ite2 (fun z => ?_) (fun z => ?_)
    · repeat walk_at "s"
      intro p1 np1
      generalize hg1 : upd H p1 _ = H1
      have s1 : Same H H1 := hg1 ▸ same_new np1
      have e1 := (congrFun hg1 p1).symm.trans upd_same
      clear hg1
      exact q p1 H1 s1 np1 ⟨_, _, _, e1, k0, k1⟩
    · repeat walk_at "s"
      intro p1 np1
      generalize hg1 : upd H p1 _ = H1
      have s1 : Same H H1 := hg1 ▸ same_new np1
      have e1 := (congrFun hg1 p1).symm.trans upd_same
      clear hg1
      exact q p1 H1 s1 np1 ⟨_, _, _, e1, k0, k1⟩
theorem ok_tk {f : Addr} {fd : FuncData} (F : Fun K "_law_take" "_law_take" slaw_take f fd) : FnOk P w K mg base CX0 1 f fd ["deck", "many"] spTk := by
  have nd := sclaw_take.nd
  refine F.ok sclaw_take (fun vs H Q E h => ?_) (fun cdv A outer s H vs Q E hr h => ?_)
  · obtain ⟨n, a, m, rfl, _⟩ := h
    rfl
  · obtain ⟨n, a, m, rfl, ⟨x, g, c, e, c0, c1⟩, hn, m0, m1, q⟩ := h
    refine ⟨_, (pss_cons (ps_if (pt_cmpR op_eq (pe_ix ix_list (pv 0) pe_int (fun _ _ => rfl)) pe_int (nomark _)) (pss_cons (ps_set (i := 2) nd rfl (.inl rfl) (pe_op op_mod (pe_ix ix_list (pv 0) pe_int (fun _ _ => rfl)) (pv 1)))
      (pss_cons (ps_asg (pe_op op_fdivW (pe_ix ix_list (pv 0) pe_int (fun _ _ => rfl)) (pv 1)) (pg_sub (pv 0) pe_int set_list))
      (pss_one (ps_ret (pv 2))))) pss_nil)
      (pss_cons (ps_asg (pe_op op_add (pe_ix ix_list (pv 0) pe_int (fun _ _ => rfl)) pe_int) (pg_sub (pv 0) pe_int set_list))
      (pss_cons (ps_set (i := 3) nd rfl (.inl rfl) (pe_op op_mulW (pe_op op_mod (pe_ix ix_list (pv 0) pe_int (fun _ _ => rfl)) pe_int) (pe_op op_add (pe_op op_mulW (pe_ix ix_list (pv 0) pe_int (fun _ _ => rfl)) (pe_ix ix_list (pv 0) pe_int (fun _ _ => rfl))) pe_int)))
      (pss_cons (ps_set (i := 3) nd rfl (.inl rfl) (pe_op op_mod (pe_op op_add (pe_op op_add (pv 3) (pe_ix ix_list (pv 0) pe_int (fun _ _ => rfl))) pe_int) pe_int))
      (pss_cons (ps_set (i := 3) nd rfl (.inl rfl) (pe_op op_mod (pe_op op_mulW (pv 3) (pv 3)) pe_int))
      (pss_one (ps_ret (pe_op op_mod (pe_op op_fdivW (pe_op op_mod (pe_op op_mulW (pv 3) pe_int) pe_int) pe_int) (pv 1))))))))), ?_⟩
    repeat walk_at "s"
    refine ⟨rfl, _, rfl, ?_⟩
    refine ite2 (fun z => ?_) (fun z => ?_)
    · repeat walk_at "s"
      exact q _ _ ky_put ⟨_, _, _, upd_same, c0, by omega⟩ (Int.emod_nonneg _ (by omega)) (Int.emod_lt_of_pos _ m0)
    · repeat walk_at "s"
      refine ⟨_, _, _, .int c, rfl, rfl, SqL.new e, atI_nat (j := 2) rfl, ?_⟩
      repeat walk_at "s"
      have e2 : (upd H a (.lst ([V.int x, V.int g, V.int c].set (Int.toNat 2) (V.int (c + 1))))) a = some (.lst [V.int x, V.int g, V.int (c + 1)]) := upd_same
      have k2 : Ky a H (upd H a (.lst ([V.int x, V.int g, V.int c].set (Int.toNat 2) (V.int (c + 1))))) := ky_put
      generalize upd H a (.lst ([V.int x, V.int g, V.int c].set (Int.toNat 2) (V.int (c + 1)))) = H2 at e2 k2 ⊢
      have a2 : atI [V.int x, V.int g, V.int (c + 1)] 2 = some (.int (c + 1)) := atI_nat (j := 2) rfl
      have p0 : 0 ≤ (c + 1) * (c + 1) := Int.mul_nonneg (by omega) (by omega)
      have p1 : (c + 1) * (c + 1) ≤ 80001 * 80001 := Int.mul_le_mul (by omega) (by omega) (by omega) (by omega)
      have x0 := Int.emod_nonneg x (show (2147483647 : Int) ≠ 0 by decide)
      have x1 := Int.emod_lt_of_pos x (show (0 : Int) < 2147483647 by decide)
      refine ⟨_, _, _, .int (c + 1), rfl, rfl, SqL.new e2, a2, ?_⟩
      repeat walk_at "s"
      refine ⟨_, _, _, .int (c + 1), rfl, rfl, SqL.new e2, a2, ?_⟩
      repeat walk_at "s"
      refine ⟨_, _, _, .int (c + 1), rfl, rfl, SqL.new e2, a2, ?_⟩
      repeat walk_at "s"
      exact q _ _ k2 ⟨_, _, _, e2, by omega, by omega⟩ (Int.emod_nonneg _ (by omega)) (Int.emod_lt_of_pos _ m0)

theorem ok_num53 {f : Addr} {fd : FuncData} (F : Fun K "_law_number" "_law_number" slaw_number f fd) (claw_take : Cal P w K mg base 1 "_law_take" ["deck", "many"] spTk) : FnOk P w K mg base CX0 2 f fd ["deck"] spNumK := by
  have nd := sclaw_number.nd
  refine F.ok sclaw_number (fun vs H Q E h => ?_) (fun cdv A outer s H vs Q E hr h => ?_)
  · obtain ⟨n, a, rfl, _⟩ := h
    rfl
  · obtain ⟨n, a, rfl, h0, hn, q⟩ := h
    have hu := hr.units
    have t6 : (10 : Int) ^ Int.toNat 6 = 1000000 := by decide
    have t13 : (10 : Int) ^ Int.toNat 13 = 10000000000000 := by decide
    have t15 : (10 : Int) ^ Int.toNat 15 = 1000000000000000 := by decide
    have t9 : (10 : Int) ^ Int.toNat 9 = 1000000000 := by decide
    have t14 : (10 : Int) ^ Int.toNat 14 = 100000000000000 := by decide
    refine ⟨_, (pss_cons (ps_if (pt_cmpR op_gt (pe_own claw_take (hr.mono (by decide)) (by rfl) (pa_cons (pv 0) (pa_cons pe_int pa_nil))) pe_int (nomark _)) (pss_cons (ps_set (i := 1) nd rfl (.inl rfl) (pe_ix ix_list (pe_lst (pa_cons pe_int (pa_cons pe_int (pa_cons pe_int (pa_cons pe_int (pa_cons (pe_op op_pow pe_int pe_int) (pa_cons (pe_op op_pow pe_int pe_int) pa_nil))))))) (pe_own claw_take (hr.mono (by decide)) (by rfl) (pa_cons (pv 0) (pa_cons pe_int pa_nil))) (fun _ _ => rfl)))
      (pss_one (ps_ret (pe_op op_sub (pe_own claw_take (hr.mono (by decide)) (by rfl) (pa_cons (pv 0) (pa_cons (pv 1) pa_nil))) (pe_op op_fdivW (pv 1) pe_int))))) pss_nil)
      (pss_cons (ps_set (i := 2) nd rfl (.inl rfl) (pe_lst (pa_cons (pe_op op_pow pe_int pe_int) (pa_cons (pe_op op_sub (pe_op op_pow pe_int pe_int) pe_int) (pa_cons (pe_op op_pow pe_int pe_int) (pa_cons pe_int (pa_cons (pe_op op_add (pe_op op_pow pe_int pe_int) pe_int) pa_nil)))))))
      (pss_one (ps_ret (pe_op op_mulW (pe_ix ix_list (pv 2) (pe_own claw_take (hr.mono (by decide)) (by rfl) (pa_cons (pv 0) (pa_cons pe_int pa_nil))) (fun _ _ => rfl)) (pe_op op_sub pe_int (pe_op op_mulW pe_int (pe_own claw_take (hr.mono (by decide)) (by rfl) (pa_cons (pv 0) (pa_cons pe_int pa_nil)))))))))), ?_⟩
    repeat walk_at "s"
    refine ⟨n, a, 3, rfl, h0, by omega, by decide, by decide, fun r1 H1 k1 d1 a1 b1 => ?_⟩
    repeat walk_at "s"
    refine ite2 (fun z => ?_) (fun z => ?_)
    · repeat walk_at "s"
      intro p2 np2
      generalize hg2 : upd H1 p2 _ = H2
      have s2 : Same H1 H2 := hg2 ▸ same_new np2
      have e2 := (congrFun hg2 p2).symm.trans upd_same
      clear hg2
      have n2 : p2 ≠ a := DeckAt.ne d1 np2
      repeat walk_at "s"
      refine ⟨n + 1, a, 6, rfl, d1.same s2, by omega, by decide, by decide, fun r3 H3 k3 d3 a3 b3 => ?_⟩
      obtain ⟨sz, hsz, s0, s1⟩ : ∃ sz : Int, atI [V.int 7, V.int 7, V.int 60, V.int 60, V.int (10 ^ Int.toNat 6), V.int (10 ^ Int.toNat 13)] r3 = some (.int sz) ∧ 0 < sz ∧ sz ≤ 10000000000000 := by
        obtain ⟨x, h1, h2⟩ := at_draw (xs := [V.int 7, V.int 7, V.int 60, V.int 60, V.int (10 ^ Int.toNat 6), V.int (10 ^ Int.toNat 13)]) a3 b3
        rw [t6, t13] at h1 h2 ⊢
        simp only [List.mem_cons, List.not_mem_nil, or_false] at h2
        rcases h2 with rfl | rfl | rfl | rfl | rfl | rfl
        all_goals exact ⟨_, h1, by decide, by decide⟩
      refine ⟨_, _, _, _, rfl, rfl, SqL.new (k3.of _ _ e2 n2), hsz, ?_⟩
      repeat walk_at "s"
      refine ⟨n + 1 + 1, a, sz, rfl, d3, by omega, s0, by omega, fun r4 H4 k4 d4 a4 b4 => ?_⟩
      repeat walk_at "s"
      exact q _ H4 ((k1.trans (.same s2)).trans (k3.trans k4)) d4 ⟨by omega, by omega⟩
    · repeat walk_at "s"
      intro p2 np2
      generalize hg2 : upd H1 p2 _ = H2
      have s2 : Same H1 H2 := hg2 ▸ same_new np2
      have e2 := (congrFun hg2 p2).symm.trans upd_same
      clear hg2
      have n2 : p2 ≠ a := DeckAt.ne d1 np2
      repeat walk_at "s"
      refine ⟨n + 1, a, 5, rfl, d1.same s2, by omega, by decide, by decide, fun r3 H3 k3 d3 a3 b3 => ?_⟩
      obtain ⟨sz, hsz, s0, s1⟩ : ∃ sz : Int, atI [V.int (10 ^ Int.toNat 15), V.int (10 ^ Int.toNat 15 - 1), V.int (10 ^ Int.toNat 9), V.int 123456789012345, V.int (10 ^ Int.toNat 14 + 7)] r3 = some (.int sz) ∧ 0 < sz ∧ sz ≤ 1000000000000000 := by
        obtain ⟨x, h1, h2⟩ := at_draw (xs := [V.int (10 ^ Int.toNat 15), V.int (10 ^ Int.toNat 15 - 1), V.int (10 ^ Int.toNat 9), V.int 123456789012345, V.int (10 ^ Int.toNat 14 + 7)]) a3 b3
        rw [t15, t9, t14] at h1 h2 ⊢
        simp only [List.mem_cons, List.not_mem_nil, or_false] at h2
        rcases h2 with rfl | rfl | rfl | rfl | rfl
        all_goals exact ⟨_, h1, by decide, by decide⟩
      refine ⟨_, _, _, _, rfl, rfl, SqL.new (k3.of _ _ e2 n2), hsz, ?_⟩
      repeat walk_at "s"
      refine ⟨n + 1 + 1, a, 2, rfl, d3, by omega, by decide, by decide, fun r4 H4 k4 d4 a4 b4 => ?_⟩
      repeat walk_at "s"
      refine q _ H4 ((k1.trans (.same s2)).trans (k3.trans k4)) d4 ?_
      have : r4 = 0 ∨ r4 = 1 := by omega
      rcases this with rfl | rfl
      · exact ⟨by omega, by omega⟩
      · exact ⟨by omega, by omega⟩
theorem ok_row53 {f : Addr} {fd : FuncData} (B : Bt mg) (F : Fun K "_law_row" "_law_row" slaw_row f fd) (claw_take : Cal P w K mg base 1 "_law_take" ["deck", "many"] spTk) (claw_number : Cal P w K mg base 2 "_law_number" ["deck"] spNumK) : FnOk P w K mg base CX0 3 f fd ["deck", "most"] spRowK := by
  have nd := sclaw_row.nd
  refine F.ok sclaw_row (fun vs H Q E h => ?_) (fun cdv A outer s H vs Q E hr h => ?_)
  · obtain ⟨n, a, m, rfl, _⟩ := h
    rfl
  · obtain ⟨n, a, m, rfl, h0, hn, hm, q⟩ := h
    have hu := hr.units
    refine ⟨_, (pss_cons (ps_setLc (i := 3) (own := [("k", 2)]) (by rfl) nd rfl rfl (sw_true rfl rfl rfl (by decide +kernel)) (pi_range1 (by rfl) B.range_ (pa_cons (pe_own claw_take (hr.mono (by decide)) (by rfl) (pa_cons (pv 0) (pa_cons (pe_op op_add (pv 1) pe_int) pa_nil))) pa_nil)) (blkOk_by (own := [("k", 2)]) (N := ["deck", "most", "k", "row"]) (sc := defScope slaw_row) (by decide +kernel)) (fun _ _ _ _ _ => (pg_name (i := 2) nd rfl (.inl rfl))) (fun _ _ _ _ _ => pts_nil) (fun _ _ _ _ _ => (pe_own claw_number (hr.mono (by decide)) (by rfl) (pa_cons (pv 0) pa_nil))))
      (Evl.pss_cut (ps_if (PW.pt (pw_and (pt_cmpR (op_neD hu) (pv 3) (pe_lst pa_nil) (nomark _)) (pw_and1 (pt_cmpR op_eq (pe_own claw_take (hr.mono (by decide)) (by rfl) (pa_cons (pv 0) (pa_cons pe_int pa_nil))) pe_int (nomark _))))) (pss_one (ps_set (i := 3) nd rfl (.inl rfl) (pe_op op_cat (pv 3) (pe_op op_rep (pe_lst (pa_cons (pe_ix ix_list (pv 3) pe_int (fun _ _ => rfl)) pa_nil)) (pe_own claw_take (hr.mono (by decide)) (by rfl) (pa_cons (pv 0) (pa_cons pe_int pa_nil))))))) pss_nil)
      (pss_one (ps_ret (pe_callB cr_sortedI (by rfl) B.sorted_ (by decide +kernel) (pa_cons (pv 3) pa_nil)))))), ?_⟩
    repeat walk_at "s"
    refine ⟨n, a, (m : Int) + 1, rfl, h0, by omega, by omega, by omega, fun r1 H1 k1 d1 a1 b1 => ?_⟩
    repeat walk_at "s"
    intro D nD
    have nDa : D ≠ a := DeckAt.ne d1 nD
    obtain ⟨c, rfl⟩ : ∃ c : Nat, r1 = (c : Int) := ⟨r1.toNat, by omega⟩
    refine lc_range (lo := 0) (n := c) (fun i H' => ∃ xs : List Int, xs.length = i ∧ (∀ x ∈ xs, SmallT x) ∧ Ky a H1 H' ∧ DeckAt (n + 1 + 3 * i) H' a ∧ H' D = some (.lst (xs.map V.int))) ⟨[], rfl, (fun _ h => nomatch h), .same (same_new nD), d1.same (same_new nD), upd_same⟩ (fun i Hi hi w => ?_) (fun H5 w => ?_)
    · obtain ⟨xs, lx, sx, ki, di', ei⟩ := w
      refine ⟨rfl, ?_⟩
      repeat walk_at "s"
      refine ⟨n + 1 + 3 * i, a, rfl, di', by omega, fun v H4 k4 d4 sv => ?_⟩
      have ei4 := k4.of _ _ ei nDa
      have kp : Ky a H1 (upd H4 D (.lst (xs.map V.int ++ [V.int v]))) := ⟨fun b o e nb => by
        rw [upd_ne (ne_of_none e nD)]
        exact (ki.trans k4).of b o e nb⟩
      have dd : DeckAt (n + 1 + 3 * (i + 1)) (upd H4 D (.lst (xs.map V.int ++ [V.int v]))) a := by
        obtain ⟨x, g, c, e, r⟩ := d4
        exact ⟨x, g, c, by rw [upd_ne nDa.symm]; exact e, by omega, by omega⟩
      exact ⟨_, ei4, smallLt (by rw [List.length_map]; omega), xs ++ [v], by rw [List.length_append, lx]; rfl, fun y hy => (List.mem_append.mp hy).elim (sx y) (fun h => by rw [List.mem_singleton.mp h]; exact sv), kp, dd, by rw [upd_same, List.map_append]; rfl⟩
    obtain ⟨xs, lx, sx, k5, d5, e5⟩ := w
    repeat walk_at "s"
    refine ⟨fun σ' H' => ∃ (p : Addr) (ns : List Int), Ky a H5 H' ∧ DeckAt (n + 1 + 3 * c + 2) H' a ∧ H' p = some (.lst (ns.map V.int)) ∧ ns.length ≤ c + 3 ∧ (∀ x ∈ ns, SmallT x) ∧ σ' = [some (.ref a), some (.int (m : Int)), none, some (.ref p)], ?_, ?_⟩
    · repeat walk_at "s"
      intro p6 np6
      generalize hg6 : upd H5 p6 _ = H6
      have s6 : Same H5 H6 := hg6 ▸ same_new np6
      have e6 := (congrFun hg6 p6).symm.trans upd_same
      clear hg6
      refine ⟨_, _, dp_ints (SqL.new (s6 _ _ e5)), dp_ints (ns := []) (SqL.new e6), shaped_ints _, shaped_ints _, ?_⟩
      rw [eqv_ints]
      refine ⟨_, rfl, ?_⟩
      have d6 := d5.same s6
      by_cases z : xs = []
      · rw [decide_eq_true z]
        exact ⟨D, xs, .same s6, d6.mono (by omega), s6 _ _ e5, by omega, sx, rfl⟩
      · rw [decide_eq_false z]
        refine iteT ?_
        repeat walk_at "s"
        refine ⟨_, a, 4, rfl, d6, by omega, by decide, by decide, fun r7 H7 k7 d7 a7 b7 => ?_⟩
        have e7 := k7.of _ _ (s6 _ _ e5) nDa
        refine ⟨rfl, _, rfl, ?_⟩
        refine ite2 (fun z7 => ?_) (fun z7 => ?_)
        · obtain ⟨x0, r0, rfl⟩ : ∃ x0 r0, xs = x0 :: r0 := by
            cases xs with
            | nil => exact absurd rfl z
            | cons x0 r0 => exact ⟨x0, r0, rfl⟩
          repeat walk_at "s"
          try refine ⟨_, _, _, .int x0, rfl, rfl, SqL.new e7, at0, ?_⟩
          repeat walk_at "s"
          intro p8 np8
          generalize hg8 : upd H7 p8 _ = H8
          have s8 : Same H7 H8 := hg8 ▸ same_new np8
          have e8 := (congrFun hg8 p8).symm.trans upd_same
          clear hg8
          have n8 : p8 ≠ a := DeckAt.ne d7 np8
          repeat walk_at "s"
          refine ⟨_, a, 4, rfl, d7.same s8, by omega, by decide, by decide, fun r9 H9 k9 d9 a9 b9 => ?_⟩
          refine ⟨p8, r9, _, rfl, rfl, k9.of _ _ e8 n8, by omega, by omega, small (by simp; omega), ?_⟩
          intro p10 np10
          generalize hg10 : upd H9 p10 _ = H10
          have s10 : Same H9 H10 := hg10 ▸ same_new np10
          have e10 := (congrFun hg10 p10).symm.trans upd_same
          clear hg10
          have erep : (List.replicate r9.toNat [V.int x0]).flatten = (List.replicate r9.toNat x0).map V.int := by
            induction r9.toNat with
            | zero => rfl
            | succ k ih => rw [List.replicate_succ, List.flatten_cons, ih, List.replicate_succ]; rfl
          rw [erep] at e10
          have e90 := s10 _ _ (k9.of _ _ (s8 _ _ e7) nDa)
          refine ⟨D, p10, _, _, rfl, rfl, e90, e10, small (by rw [List.length_map, List.length_map, List.length_replicate]; omega), ?_⟩
          intro p11 np11
          generalize hg11 : upd H10 p11 _ = H11
          have s11 : Same H10 H11 := hg11 ▸ same_new np11
          have e11 := (congrFun hg11 p11).symm.trans upd_same
          clear hg11
          repeat walk_at "s"
          refine ⟨p11, (x0 :: r0) ++ List.replicate r9.toNat x0, (((Ky.same s6).trans k7).trans (.same s8)).trans ((k9.trans (.same s10)).trans (.same s11)), (d9.same s10).same s11, by rw [e11, List.map_append], by rw [List.length_append, List.length_replicate, lx]; omega, fun x hx => ?_, rfl⟩
          rcases List.mem_append.mp hx with h | h
          · exact sx x h
          · rw [(List.mem_replicate.mp h).2]
            exact sx x0 List.mem_cons_self
        · exact ⟨D, xs, (Ky.same s6).trans k7, d7.mono (by omega), e7, by omega, sx, rfl⟩
    · rintro σ' Hx ⟨p, ns, kx, dx, ep, ln, sn, rfl⟩
      repeat walk_at "s"
      refine ⟨p, ns, rfl, SqL.new ep, fun ms p2 hp hs np2 => ?_⟩
      have n2 : p2 ≠ a := DeckAt.ne dx np2
      have K5 := k1.trans (k5.trans kx)
      have sm : Same Hx (upd Hx p2 (.lst (ms.map V.int))) := same_new np2
      exact q p2 ms _ (K5.trans (.same sm)) (K5.free n2 np2) upd_same ((dx.same sm).mono (by omega)) (by rw [hp.length_eq]; omega) (perm_fine hp hs fun y hy => sn y hy)

theorem ok_is_whole {f : Addr} {fd : FuncData} (B : Bt mg) (F : Fun K "is_whole" "is_whole" sis_whole f fd) : FnOk P w K mg base CX0 1 f fd ["thing"] (spIsWhole K) := by
  have nd := scis_whole.nd
  refine F.ok scis_whole (fun vs H Q E h => ?_) (fun cdv A outer s H vs Q E hr h => ?_)
  · obtain ⟨x, rfl, _⟩ := h
    rfl
  · obtain ⟨x, rfl, h⟩ := h
    refine ⟨_, (pss_one (ps_ret (pe_and (pe_callB call_isi (by rfl) B.isinstance_ (by decide +kernel) (pa_cons (pv 0) (pa_cons (pe_bltn (v := .ty "int") (by rfl) B.int_ (by decide +kernel) rfl) pa_nil))) (pe_one (pe_not (pe_callB call_isi (by rfl) B.isinstance_ (by decide +kernel) (pa_cons (pv 0) (pa_cons (pe_bltn (v := .ty "bool") (by rfl) B.bool_ (by decide +kernel) rfl) pa_nil)))))))), ?_⟩
    walk_at "s"
    rcases h with ⟨⟨n, rfl⟩, q⟩ | ⟨⟨T, hT, ty⟩, q⟩
    · refine ⟨_, _, _, _, true, rfl, .ty "int", .base (.int n), kit_ty (by decide +kernel), ?_⟩
      repeat walk_at "s"
      refine ⟨_, _, _, _, false, rfl, .ty "bool", .base (.int n), kit_ty (by decide +kernel), ?_⟩
      exact ⟨_, rfl, q⟩
    · simp only [kinds, List.mem_cons, List.not_mem_nil, or_false] at hT
      rcases hT with rfl | rfl | rfl | rfl | rfl | rfl
      · refine ⟨_, _, _, _, true, rfl, .ty "int", ty, kit_ty (by decide +kernel), ?_⟩
        repeat walk_at "s"
        refine ⟨_, _, _, _, true, rfl, .ty "bool", ty, kit_ty (by decide +kernel), ?_⟩
        exact ⟨_, rfl, q⟩
      all_goals
        refine ⟨_, _, _, _, false, rfl, .ty "int", ty, kit_ty (by decide +kernel), ?_⟩
        exact ⟨_, rfl, q⟩
theorem ok_is_row {f : Addr} {fd : FuncData} (B : Bt mg) (F : Fun K "is_row" "is_row" sis_row f fd) (cis_whole : Cal P w K mg base 1 "is_whole" ["thing"] (spIsWhole K)) : FnOk P w K mg base CX0 2 f fd ["thing"] (spIsRow K) := by
  have nd := scis_row.nd
  refine F.ok scis_row (fun vs H Q E h => ?_) (fun cdv A outer s H vs Q E hr h => ?_)
  · obtain ⟨x, rfl, _⟩ := h
    rfl
  · obtain ⟨x, rfl, h⟩ := h
    refine ⟨_, (pss_cons (ps_if (pt_not (pt_val (pe_callB call_isi (by rfl) B.isinstance_ (by decide +kernel) (pa_cons (pv 0) (pa_cons (pe_bltn (v := .ty "list") (by rfl) B.list_ (by decide +kernel) rfl) pa_nil))))) (pss_one (ps_ret pe_bl)) pss_nil)
      (pss_cons (ps_for PassesOwn.never rfl (pi_enum (by rfl) B.enumerate_ (pa_cons (pv 0) pa_nil)) (pg_tup rfl (pgs_cons (pg_name (i := 1) nd rfl (.inl rfl)) (pgs_cons (pg_name (i := 2) nd rfl (.inl rfl)) pgs_nil))) (pss_cons (ps_if (pt_not (pt_val (pe_own cis_whole (hr.mono (by decide)) (by rfl) (pa_cons (pv 2) pa_nil)))) (pss_one (ps_ret pe_bl)) pss_nil)
      (pss_one (ps_if (PW.pt (pw_and (pt_cmpR op_gt (pv 1) pe_int (nomark _)) (pw_and1 (pt_cmpR op_lt (pv 2) (pe_ix ix_list (pv 0) (pe_op op_sub (pv 1) pe_int) (fun _ _ => rfl)) (nomark _))))) (pss_one (ps_ret pe_bl)) pss_nil))))
      (pss_one (ps_ret pe_bl)))), ?_⟩
    walk_at "s"
    rcases h with ⟨p, xs, rfl, hS, hk, q⟩ | ⟨T, hT, ty, q⟩
    · refine ⟨_, _, _, _, true, rfl, .ty "list", tyList hS, kit_ty (by decide +kernel), ?_⟩
      repeat walk_at "s"
      refine ⟨p, xs, rfl, hS, ?_⟩
      refine for_enum (K := K) (a := p) (xs := xs) (fun i σ H' => Same H H' ∧ (∃ v1 v2 : Option V, σ = [some (.ref p), v1, v2]) ∧ ∃ ns : List Int, xs.take i = ns.map V.int ∧ ns.Pairwise (· ≤ ·)) ⟨Same.refl _, ⟨none, none, rfl⟩, [], rfl, List.Pairwise.nil⟩ (fun i σ Hi _ w => w.1.seq hS) (fun i x σ Hi T hx w nT => ?_) (fun σ Hi w => ?_)
      · obtain ⟨s1, ⟨v1, v2, rfl⟩, ns, en, sn⟩ := w
        have sT : Same Hi (upd Hi T (.tup [.int (i : Nat), x])) := same_new nT
        have hi : i < xs.length := (List.getElem?_eq_some_iff.mp hx).1
        have ln : ns.length = i := by
          have := congrArg List.length en
          rw [List.length_take, List.length_map] at this
          omega
        refine ⟨T, _, rfl, .inl (.inl upd_same), rfl, _, _, rfl, _, _, rfl, rfl, ?_⟩
        generalize upd Hi T (.tup [.int (i : Nat), x]) = H2 at sT ⊢
        have s2 := s1.trans sT
        repeat walk_at "s"
        rcases hk x (List.mem_of_getElem? hx) with ⟨n, rfl⟩ | hno
        · refine .inl ⟨⟨n, rfl⟩, ?_⟩
          repeat walk_at "s"
          have snoc : xs.take (i + 1) = (ns ++ [n]).map V.int := by
            rw [take_snoc hx, en, List.map_append]
            rfl
          refine ite2 (fun z => ?_) (fun z => ?_)
          · have z1 : (0 : Int) < (i : Int) := of_decide_eq_true z
            obtain ⟨m, hm⟩ : ∃ m, ns[i - 1]? = some m := ⟨_, List.getElem?_eq_getElem (by omega)⟩
            have hm2 : xs[i - 1]? = some (.int m) := by
              have h1 : (xs.take i)[i - 1]? = some (.int m) := by rw [en, List.getElem?_map, hm]; rfl
              rw [List.getElem?_take] at h1
              rw [if_pos (by omega)] at h1
              exact h1
            have last : ns = ns.take (i - 1) ++ [m] := by
              have h1 := take_snoc hm
              rw [show i - 1 + 1 = ns.length from by omega, take_all] at h1
              exact h1
            repeat walk_at "s"
            refine ⟨_, _, _, .int m, rfl, rfl, s2.seq hS, ?_, ?_⟩
            · show atI xs ((i : Int) - 1) = _
              rw [show (i : Int) - 1 = ((i - 1 : Nat) : Int) from by omega]
              exact atI_nat hm2
            repeat walk_at "s"
            refine ite2 (fun u => ?_) (fun u => ?_)
            · have u1 : n < m := of_decide_eq_true u
              refine q false H2 ⟨fun h => (by cases h), fun h => ?_⟩ s2
              obtain ⟨ms, em, sm⟩ := h
              have a1 : ms[i - 1]? = some m := by
                rw [em, List.getElem?_map] at hm2
                cases e : ms[i - 1]? with
                | none => rw [e] at hm2; cases hm2
                | some k => rw [e] at hm2; rw [V.int.inj (Option.some.inj hm2)]
              have a2 : ms[i]? = some n := by
                rw [em, List.getElem?_map] at hx
                cases e : ms[i]? with
                | none => rw [e] at hx; cases hx
                | some k => rw [e] at hx; rw [V.int.inj (Option.some.inj hx)]
              have := sorted_le sm a1 a2 (by omega)
              omega
            · have u1 : ¬ n < m := fun k => u (decide_eq_true k)
              refine ⟨s2, ⟨_, _, rfl⟩, ns ++ [n], snoc, List.pairwise_append.mpr ⟨sn, List.pairwise_singleton _ _, fun y hy y2 hy2 => ?_⟩⟩
              rw [List.mem_singleton.mp hy2]
              obtain ⟨j, hj⟩ := List.mem_iff_getElem?.mp hy
              have h1 := (List.getElem?_eq_some_iff.mp hj).1
              have := sorted_le sn hj hm (by omega)
              omega
          · have z1 : ¬ (0 : Int) < (i : Int) := fun k => z (decide_eq_true k)
            have z2 : ns = [] := List.length_eq_zero_iff.mp (by omega)
            refine ⟨s2, ⟨_, _, rfl⟩, ns ++ [n], snoc, ?_⟩
            rw [z2]
            exact List.pairwise_singleton _ _
        · refine .inr ⟨hno.up s2, ?_⟩
          repeat walk_at "s"
          refine q false H2 ⟨fun h => (by cases h), fun h => ?_⟩ s2
          obtain ⟨ms, em, sm⟩ := h
          rw [em, List.getElem?_map] at hx
          cases e : ms[i]? with
          | none => rw [e] at hx; cases hx
          | some k => rw [e] at hx; exact absurd (Option.some.inj hx).symm (hno.ne k)
      · obtain ⟨s1, ⟨v1, v2, rfl⟩, ns, en, sn⟩ := w
        rw [take_all] at en
        exact q true Hi ⟨fun _ => ⟨ns, en, sn⟩, fun _ => rfl⟩ s1
    · simp only [List.mem_cons, List.not_mem_nil, or_false] at hT
      rcases hT with rfl | rfl | rfl | rfl | rfl | rfl
      all_goals
        refine ⟨_, _, _, _, false, rfl, .ty "list", ty, kit_ty (by decide +kernel), ?_⟩
        repeat walk_at "s"
        exact q

theorem ok_writ {f : Addr} {fd : FuncData} (B : Bt mg) (F : Fun K "written_number" "written_number" swritten_number f fd) : FnOk P w K mg base CX0 1 f fd ["word", "most"] spWrit := by
  have nd := scwritten_number.nd
  refine F.ok scwritten_number (fun vs H Q E h => ?_) (fun cdv A outer s H vs Q E hr h => ?_)
  · obtain ⟨x, m, rfl, _⟩ := h
    rfl
  · obtain ⟨x, m, rfl, m0, m1, lx, q⟩ := h
    refine ⟨_, (pss_cons (ps_set (i := 2) nd rfl (.inl rfl) (pe_bm PySem.F.plainAttrs_str PySem.F.slot_str_removeprefix PySem.F.type_str_removeprefix mt_removeprefix (pv 0) (pa_cons pe_str pa_nil)))
      (pss_cons (ps_if (PW.pt (pw_or (pt_not (PW.pt (pw_and (pt_val (pe_bm0 PySem.F.plainAttrs_str PySem.F.slot_str_isascii PySem.F.type_str_isascii mt_isascii (pv 2))) (pw_and1 (pt_val (pe_bm0 PySem.F.plainAttrs_str PySem.F.slot_str_isdigit PySem.F.type_str_isdigit mt_isdigit (pv 2))))))) (pw_or1 (pt_cmpR op_gt (pe_callB call_len_str (by rfl) B.len_ (by decide +kernel) (pa_cons (pv 2) pa_nil)) (pv 1) (nomark _))))) (pss_one (ps_ret pe_non)) pss_nil)
      (pss_cons (ps_set (i := 3) nd rfl (.inl rfl) (pe_callTy call_int_str (by rfl) B.int_ (by decide +kernel) (pa_cons (pv 0) pa_nil)))
      (pss_cons (ps_if (pt_cmpR op_ne (pe_callTy call_str_int (by rfl) B.str_ (by decide +kernel) (pa_cons (pv 3) pa_nil)) (pv 0) (nomark _)) (pss_one (ps_ret pe_non)) pss_nil)
      (pss_one (ps_ret (pv 3))))))), ?_⟩
    repeat walk_at "s"
    refine ⟨rfl, ?_⟩
    repeat walk_at "s"
    refine ⟨small lx, ?_⟩
    have lf := Tx.figs_len x
    have lf2 := Tx.len_figs x
    repeat walk_at "s"
    refine ⟨rfl, ?_⟩
    refine ⟨_, rfl, rfl, trivial, ?_⟩
    have no : Tx.good x = false → Q .non H := fun h => by
      have e : Tx.writ x m = none := by
        unfold Tx.writ
        rw [h]
        rfl
      rw [e] at q
      exact q
    cases h1 : Txt.isascii (Tx.figs x)
    · repeat walk_at "s"
      exact no (by unfold Tx.good; rw [h1]; rfl)
    · repeat walk_at "s"
      refine ⟨rfl, ?_⟩
      refine ⟨_, rfl, rfl, trivial, ?_⟩
      cases h2 : Txt.isdigit (Tx.figs x)
      · repeat walk_at "s"
        exact no (by unfold Tx.good; rw [h1, h2]; rfl)
      · have hg : Tx.good x = true := by unfold Tx.good; rw [h1, h2]; rfl
        repeat walk_at "s"
        refine ⟨small (show (Tx.figs x).length ≤ 100000 by omega), ?_⟩
        repeat walk_at "s"
        by_cases c : m < ((Tx.figs x).length : Int)
        · rw [decide_eq_true c]
          refine iteT ?_
          repeat walk_at "s"
          have e : Tx.writ x m = none := by
            unfold Tx.writ
            rw [if_neg (fun h => by have := h.2; omega)]
          rw [e] at q
          exact q
        · rw [decide_eq_false c]
          refine iteF ?_
          repeat walk_at "s"
          refine ⟨x, Tx.valOf x, rfl, Tx.good_reads hg (by omega), by omega, ?_⟩
          repeat walk_at "s"
          refine ⟨Tx.valOf_log hg (by omega), ?_⟩
          repeat walk_at "s"
          refine ⟨rfl, _, rfl, ?_⟩
          by_cases c2 : Tx.toStr (Tx.valOf x) = x
          · rw [decide_eq_true (show V.str (Tx.toStr (Tx.valOf x)) = V.str x by rw [c2])]
            refine iteF ?_
            repeat walk_at "s"
            have e : Tx.writ x m = some (Tx.valOf x) := by
              unfold Tx.writ
              rw [if_pos ⟨hg, by omega⟩, if_pos c2]
            rw [e] at q
            exact q
          · rw [decide_eq_false (show ¬ V.str (Tx.toStr (Tx.valOf x)) = V.str x from fun h => c2 (V.str.inj h))]
            refine iteT ?_
            repeat walk_at "s"
            have e : Tx.writ x m = none := by
              unfold Tx.writ
              rw [if_pos ⟨hg, by omega⟩, if_neg c2]
            rw [e] at q
            exact q

theorem ok_read54 {f : Addr} {fd : FuncData} {tk : Tok} (B : Bt mg) (F : Fun K "read_row" "read_row" sread_row f fd) (figs : mg "FIGURES" = some (.int 16 tk)) (cis_row : Cal P w K mg base 2 "is_row" ["thing"] (spIsRow K)) (cwritten_number : Cal P w K mg base 1 "written_number" ["word", "most"] spWrit) : FnOk P w K mg base CX0 3 f fd ["text"] (spReadT K) := by
  have nd := scread_row.nd
  refine F.ok scread_row (fun vs H Q E h => ?_) (fun cdv A outer s H vs Q E hr h => ?_)
  · obtain ⟨x, ns, rfl, _⟩ := h
    rfl
  · obtain ⟨x, ns, rfl, lx, ex, q⟩ := h
    refine ⟨_, (pss_cons (ps_if (pt_not (pt_val (pe_callB call_isi (by rfl) B.isinstance_ (by decide +kernel) (pa_cons (pv 0) (pa_cons (pe_bltn (v := .ty "str") (by rfl) B.str_ (by decide +kernel) rfl) pa_nil))))) (pss_one ps_never) pss_nil)
      (pss_cons (ps_if (pt_cmpR op_eq (pv 0) pe_str (nomark _)) (pss_one (ps_ret (pe_lst pa_nil))) pss_nil)
      (pss_cons (ps_setLc (i := 2) (own := [("word", 1)]) (by rfl) nd rfl rfl (sw_true rfl rfl rfl (by decide +kernel)) (pi_list (pe_bm PySem.F.plainAttrs_str PySem.F.slot_str_split PySem.F.type_str_split mt_split (pv 0) (pa_cons pe_str pa_nil))) (blkOk_by (own := [("word", 1)]) (N := ["text", "word", "row"]) (sc := defScope sread_row) (by decide +kernel)) (fun _ _ _ _ _ => (pg_name (i := 1) nd rfl (.inl rfl))) (fun _ _ _ _ _ => pts_nil) (fun _ _ _ _ _ => (pe_own cwritten_number (hr.mono (by decide)) (by rfl) (pa_cons (pv 1) (pa_cons (pe_glob (v := .int 16) rfl figs ⟨_, rfl⟩) pa_nil)))))
      (pss_cons (ps_if (pt_not (pt_val (pe_own cis_row (hr.mono (by decide)) (by rfl) (pa_cons (pv 2) pa_nil)))) (pss_one ps_never) pss_nil)
      (pss_one (ps_ret (pv 2))))))), ?_⟩
    repeat walk_at "s"
    refine ⟨_, _, _, _, true, rfl, .ty "str", .base (.str _), kit_ty (by decide +kernel), ?_⟩
    repeat walk_at "s"
    refine ⟨rfl, _, rfl, ?_⟩
    by_cases z : x = Tx.minus
    · rw [decide_eq_true (show V.str x = V.str Tx.minus by rw [z])]
      refine iteT ?_
      repeat walk_at "s"
      intro p1 np1
      generalize hg1 : upd H p1 _ = H1
      have s1 : Same H H1 := hg1 ▸ same_new np1
      have e1 := (congrFun hg1 p1).symm.trans upd_same
      clear hg1
      rw [Tx.rowIn_minus z] at ex
      cases ex
      exact q p1 H1 s1 np1 e1
    · rw [decide_eq_false (show ¬ V.str x = V.str Tx.minus from fun h => z (V.str.inj h))]
      refine iteF ?_
      repeat walk_at "s"
      refine ⟨rfl, ?_⟩
      repeat walk_at "s"
      refine ⟨small (by omega), ?_⟩
      intro p1 np1
      generalize hg1 : upd H p1 _ = H1
      have s1 : Same H H1 := hg1 ▸ same_new np1
      have e1 := (congrFun hg1 p1).symm.trans upd_same
      clear hg1
      rw [rowIn_else z] at ex
      have ls := Tx.split_tot x
      have wl : ∀ u ∈ Txt.split x Tx.blankS, u.length ≤ 60001 := fun u hu => by
        have := Tx.tot_mem hu
        omega
      change H1 p1 = some (.lst ((Txt.split x Tx.blankS).map V.str)) at e1
      generalize hw : Txt.split x Tx.blankS = ws at e1 ex ls wl
      refine ⟨p1, rfl, ⟨_, SqL.new e1⟩, ?_⟩
      intro D nD
      refine lc_list (K := K) (a := p1) (xs := ws.map V.str) (fun j H' => Same H1 H' ∧ H' D = some (.lst ((ws.take j).map fun u => optV (Tx.writ u 16)))) ⟨same_new nD, upd_same⟩ (fun j Hj _ w => w.1.seq (SqL.new e1)) (fun j v Hj hv w => ?_) (fun H5 w => ?_)
      · obtain ⟨w1, w2⟩ := w
        obtain ⟨u, hx, rfl⟩ : ∃ u, ws[j]? = some u ∧ v = .str u := by
          rw [List.getElem?_map] at hv
          cases h : ws[j]? with
          | none => rw [h] at hv; cases hv
          | some u => rw [h] at hv; exact ⟨u, rfl, (Option.some.inj hv).symm⟩
        have lj := (List.getElem?_eq_some_iff.mp hx).1
        have lt := wl u (List.mem_of_getElem? hx)
        refine ⟨rfl, ?_⟩
        repeat walk_at "s"
        refine ⟨u, 16, rfl, by decide, by decide, by omega, ?_⟩
        refine ⟨_, w2, smallLt (by rw [List.length_map, List.length_take]; omega), same_app nD w1, ?_⟩
        rw [upd_same, take_snoc hx, List.map_append]
        rfl
      obtain ⟨s5, e5⟩ := w
      rw [List.length_map, List.take_length] at e5
      have good : ∃ ms, Tx.writAll 16 ws = some ms := by
        cases h : Tx.writAll 16 ws with
        | none => rw [h] at ex; cases ex
        | some ms => exact ⟨ms, rfl⟩
      obtain ⟨ms, hm⟩ := good
      rw [hm] at ex
      dsimp only at ex
      obtain ⟨pw, rfl⟩ : ms.Pairwise (· ≤ ·) ∧ ms = ns := by
        by_cases c : ms.Pairwise (· ≤ ·)
        · rw [if_pos c] at ex
          exact ⟨c, Option.some.inj ex⟩
        · rw [if_neg c] at ex
          cases ex
      rw [opt_row hm] at e5
      repeat walk_at "s"
      refine .inl ⟨D, _, rfl, SqL.new e5, fun y hy => .inl ?_, fun b H6 hb s6 => ?_⟩
      · obtain ⟨n, _, rfl⟩ := List.mem_map.mp hy
        exact ⟨n, rfl⟩
      obtain rfl : b = true := hb.mpr ((IsRow.map ms).mpr pw)
      repeat walk_at "s"
      exact q D H6 ((s1.trans s5).trans s6) (s1.free nD) (s6 _ _ e5)
theorem ok_read_ref54 {CP C1 C2 C3 C4 CS f : Addr} {fd : FuncData} {tk : Tok} (B : Bt mg) (F : Fun K "read_row" "read_row" sread_row f fd) (rs : Rtx K mg CP C1 C2 C3 C4 CS) (figs : mg "FIGURES" = some (.int 16 tk)) (cis_row : Cal P w K mg base 2 "is_row" ["thing"] (spIsRow K)) (cwritten_number : Cal P w K mg base 1 "written_number" ["word", "most"] spWrit) : FnOk P w K mg base (L2.CX P w) 3 f fd ["text"] (spReadTR C4) := by
  have nd := scread_row.nd
  refine F.okX scread_row (fun vs H Q E h => ?_) (fun cdv A outer s H vs Q E hr h => ?_)
  · obtain ⟨x, rfl, _⟩ := h
    rfl
  · obtain ⟨x, rfl, lx, ex, q⟩ := h
    refine ⟨_, (pss_cons (ps_if (pt_not (pt_val (pe_callB call_isi (by rfl) B.isinstance_ (by decide +kernel) (pa_cons (pv 0) (pa_cons (pe_bltn (v := .ty "str") (by rfl) B.str_ (by decide +kernel) rfl) pa_nil))))) (pss_one (ps_raise rfl (takes_of rfl rfl rfl rfl) (pmk_own PySem.F.excBase_ValueError rs.xC rs.gC rs.kC (raises_own rs.bC rs.tC) rfl))) pss_nil)
      (pss_cons (ps_if (pt_cmpR op_eq (pv 0) pe_str (nomark _)) (pss_one (ps_ret (pe_lst pa_nil))) pss_nil)
      (pss_cons (ps_setLc (i := 2) (own := [("word", 1)]) (by rfl) nd rfl rfl (sw_true rfl rfl rfl (by decide +kernel)) (pi_list (pe_bm PySem.F.plainAttrs_str PySem.F.slot_str_split PySem.F.type_str_split mt_split (pv 0) (pa_cons pe_str pa_nil))) (blkOk_by (own := [("word", 1)]) (N := ["text", "word", "row"]) (sc := defScope sread_row) (by decide +kernel)) (fun _ _ _ _ _ => (pg_name (i := 1) nd rfl (.inl rfl))) (fun _ _ _ _ _ => pts_nil) (fun _ _ _ _ _ => (pe_own cwritten_number (hr.mono (by decide)) (by rfl) (pa_cons (pv 1) (pa_cons (pe_glob (v := .int 16) rfl figs ⟨_, rfl⟩) pa_nil)))))
      (pss_cons (ps_if (pt_not (pt_val (pe_own cis_row (hr.mono (by decide)) (by rfl) (pa_cons (pv 2) pa_nil)))) (pss_one (ps_raise rfl (takes_of rfl rfl rfl rfl) (pmk_own PySem.F.excBase_ValueError rs.xC rs.gC rs.kC (raises_own rs.bC rs.tC) rfl))) pss_nil)
      (pss_one (ps_ret (pv 2))))))), ?_⟩
    repeat walk_at "s"
    refine ⟨_, _, _, _, true, rfl, .ty "str", .base (.str _), kit_ty (by decide +kernel), ?_⟩
    repeat walk_at "s"
    refine ⟨rfl, _, rfl, ?_⟩
    have z : x ≠ Tx.minus := fun z => by rw [Tx.rowIn_minus z] at ex; cases ex
    rw [decide_eq_false (show ¬ V.str x = V.str Tx.minus from fun h => z (V.str.inj h))]
    refine iteF ?_
    repeat walk_at "s"
    refine ⟨rfl, ?_⟩
    repeat walk_at "s"
    refine ⟨small (by omega), ?_⟩
    intro p1 np1
    generalize hg1 : upd H p1 _ = H1
    have s1 : Same H H1 := hg1 ▸ same_new np1
    have e1 := (congrFun hg1 p1).symm.trans upd_same
    clear hg1
    rw [rowIn_else z] at ex
    have ls := Tx.split_tot x
    have wl : ∀ u ∈ Txt.split x Tx.blankS, u.length ≤ 60001 := fun u hu => by
      have := Tx.tot_mem hu
      omega
    change H1 p1 = some (.lst ((Txt.split x Tx.blankS).map V.str)) at e1
    generalize hw : Txt.split x Tx.blankS = ws at e1 ex ls wl
    refine ⟨p1, rfl, ⟨_, SqL.new e1⟩, ?_⟩
    intro D nD
    refine lc_list (K := K) (a := p1) (xs := ws.map V.str) (fun j H' => Same H1 H' ∧ H' D = some (.lst ((ws.take j).map fun u => optV (Tx.writ u 16)))) ⟨same_new nD, upd_same⟩ (fun j Hj _ w => w.1.seq (SqL.new e1)) (fun j v Hj hv w => ?_) (fun H5 w => ?_)
    · obtain ⟨w1, w2⟩ := w
      obtain ⟨u, hx, rfl⟩ : ∃ u, ws[j]? = some u ∧ v = .str u := by
        rw [List.getElem?_map] at hv
        cases h : ws[j]? with
        | none => rw [h] at hv; cases hv
        | some u => rw [h] at hv; exact ⟨u, rfl, (Option.some.inj hv).symm⟩
      have lj := (List.getElem?_eq_some_iff.mp hx).1
      have lt := wl u (List.mem_of_getElem? hx)
      refine ⟨rfl, ?_⟩
      repeat walk_at "s"
      refine ⟨u, 16, rfl, by decide, by decide, by omega, ?_⟩
      refine ⟨_, w2, smallLt (by rw [List.length_map, List.length_take]; omega), same_app nD w1, ?_⟩
      rw [upd_same, take_snoc hx, List.map_append]
      rfl
    obtain ⟨s5, e5⟩ := w
    rw [List.length_map, List.take_length] at e5
    have bad : ¬ IsRow (ws.map fun u => optV (Tx.writ u 16)) := by
      cases h : Tx.writAll 16 ws with
      | none => exact no_row (opt_no h)
      | some ms =>
        rw [h] at ex
        dsimp only at ex
        rw [opt_row h, IsRow.map]
        intro c
        rw [if_pos c] at ex
        cases ex
    repeat walk_at "s"
    refine .inl ⟨D, _, rfl, SqL.new e5, fun y hy => ?_, fun b H6 hb s6 => ?_⟩
    · obtain ⟨u, _, rfl⟩ := List.mem_map.mp hy
      cases Tx.writ u 16 with
      | none => exact .inr ⟨"NoneType", by decide, .base .non⟩
      | some n => exact .inl ⟨n, rfl⟩
    obtain rfl : b = false := by
      cases b with
      | false => rfl
      | true => exact absurd (hb.mp rfl) bad
    repeat walk_at "s"
    exact q H6 ((s1.trans s5).trans s6)

theorem ok_numin54 {f : Addr} {fd : FuncData} (B : Bt mg) (F : Fun K "_law_number_in" "_law_number_in" slaw_number_in f fd) (zAll : mg "all" = none) : FnOk P w K mg base CX0 1 f fd ["word"] spNumIn := by
  have nd := sclaw_number_in.nd
  refine F.ok sclaw_number_in (fun vs H Q E h => ?_) (fun cdv A outer s H vs Q E hr h => ?_)
  · obtain ⟨x, rfl, _⟩ := h
    rfl
  · obtain ⟨x, rfl, lx, q⟩ := h
    have hu := hr.units
    refine ⟨_, (Evl.pss_cut (ps_set (i := 1) nd rfl (.inl rfl) (pe_ifExp (pt_cmpR op_eq (pe_slice C8.sl_txt (pv 0) po_none (po_some pe_int)) pe_str (nomark _)) (pe_slice C8.sl_txt (pv 0) (po_some pe_int) po_none) (pv 0)))
      (pss_cons (ps_if (PW.pt (pw_or (pt_not (pt_chain op_le op_le pe_int (pe_callB call_len_str (by rfl) B.len_ (by decide +kernel) (pa_cons (pv 1) pa_nil)) pe_int)) (pw_or1 (PW.pt (pw_and (pt_cmpR op_eq (pe_ix ix_str (pv 1) pe_int (fun _ _ => rfl)) pe_str (nomark _)) (pw_and1 (pt_cmpR op_ne (pv 0) pe_str (nomark _)))))))) (pss_one (ps_ret pe_non)) pss_nil)
      (pss_one (ps_ret (pe_ifExp (pt_val (pe_callB (cr_all rfl) (by rfl) zAll (by decide +kernel) (pa_cons (pe_lc (own := [("figure", 2)]) (by rfl) nd (pi_str (pv 1)) (blkOk_by (own := [("figure", 2)]) (N := ["word", "figures", "figure"]) (sc := defScope slaw_number_in) (by decide +kernel)) (fun _ _ _ _ _ => (pg_name (i := 2) nd rfl (.inl rfl))) (fun _ _ _ _ _ => pts_nil) (fun _ _ _ _ _ => (pe_cmpR op_in_sign (pv 2) pe_str rfl))) pa_nil))) (pe_callTy call_int_str (by rfl) B.int_ (by decide +kernel) (pa_cons (pv 0) pa_nil)) pe_non))))), ?_⟩
    refine ⟨fun σ' H' => H' = H ∧ σ' = [some (.str x), some (.str (Tx.figs x)), none], ?_, ?_⟩
    · repeat walk_at "s"
      refine ⟨small (by omega), ?_⟩
      repeat walk_at "s"
      refine ⟨rfl, _, rfl, ?_⟩
      by_cases c : Txt.slice x none (some 1) = Tx.minus
      · rw [decide_eq_true (show V.str (Txt.slice x none (some 1)) = V.str Tx.minus by rw [c])]
        repeat walk_at "s"
        refine ⟨small (by omega), ?_⟩
        rw [Tx.figs_slice c]
        exact ⟨rfl, rfl⟩
      · rw [decide_eq_false (show ¬ V.str (Txt.slice x none (some 1)) = V.str Tx.minus from fun h => c (V.str.inj h))]
        repeat walk_at "s"
        refine ⟨rfl, ?_⟩
        rw [Tx.figs_same c]
        rfl
    · rintro σ' H' ⟨rfl, rfl⟩
      have lf := Tx.figs_len x
      repeat walk_at "s"
      refine ⟨small (show (Tx.figs x).length ≤ 100000 by omega), ?_⟩
      repeat walk_at "s"
      have no : Tx.writ x 16 = none → Q .non H' := fun h => by
        have := q H' (.refl _)
        rw [h] at this
        exact this
      by_cases c1 : (1 : Int) ≤ ((Tx.figs x).length : Int)
      · rw [decide_eq_true c1]
        refine iteT ?_
        repeat walk_at "s"
        by_cases c2 : ((Tx.figs x).length : Int) ≤ 16
        · rw [decide_eq_true c2]
          repeat walk_at "s"
          obtain ⟨c, r, ec⟩ : ∃ c r, (Tx.figs x).cps.toList = c :: r := by
            cases e : (Tx.figs x).cps.toList with
            | nil =>
              have l := Tx.len_cps (Tx.figs x)
              rw [e] at l
              simp at l
              omega
            | cons c r => exact ⟨c, r, rfl⟩
          refine ⟨_, _, c, rfl, rfl, small (by omega), by rw [ec]; exact at0, ?_⟩
          repeat walk_at "s"
          refine ⟨rfl, _, rfl, ?_⟩
          by_cases bad : c = 48 ∧ x ≠ Tx.zeroS
          · obtain ⟨rfl, nz⟩ := bad
            rw [decide_eq_true (show V.str ⟨#[48]⟩ = V.str Tx.zeroS by rw [Tx.zero_eq])]
            repeat walk_at "s"
            refine ⟨rfl, _, rfl, ?_⟩
            rw [decide_eq_false (show ¬ V.str x = V.str Tx.zeroS from fun h => nz (V.str.inj h))]
            refine iteT ?_
            repeat walk_at "s"
            exact no (Tx.writ_nought ec nz)
          · have fine : c ≠ 48 ∨ x = Tx.zeroS := by
              by_cases c0 : c = 48
              · exact .inr (Classical.byContradiction fun h => bad ⟨c0, h⟩)
              · exact .inl c0
            by_cases c0 : c = 48
            case' pos =>
              rw [decide_eq_true (show V.str ⟨#[c]⟩ = V.str Tx.zeroS by rw [c0, Tx.zero_eq])]
              repeat walk_at "s"
              refine ⟨rfl, _, rfl, ?_⟩
              rw [decide_eq_true (show V.str x = V.str Tx.zeroS by rw [fine.resolve_left (fun h => h c0)])]
              refine iteF ?_
            case' neg =>
              rw [decide_eq_false (show ¬ V.str ⟨#[c]⟩ = V.str Tx.zeroS from fun h => c0 ((Tx.sign_zero c).mp (V.str.inj h)))]
            all_goals repeat walk_at "s"
            all_goals intro D nD
            all_goals refine lc_it (walk_str (z := Tx.figs x)) (fun j H2 => Same H' H2 ∧ H2 D = some (.lst ((((Tx.figs x).cps.toList.take j).map Tx.figC).map V.bl))) ⟨same_new nD, upd_same⟩ (fun _ _ _ _ => trivial) ?_ ?_
            iterate 2
              · intro j v Hj Hi hj w y
                obtain ⟨w1, w2⟩ := w
                obtain ⟨rfl, d, hd, rfl⟩ := y
                have hx : (Tx.figs x).cps.toList[j]? = some d := by rw [Array.getElem?_toList]; exact hd
                have lj := Tx.len_cps (Tx.figs x)
                refine ⟨rfl, ?_⟩
                repeat walk_at "s"
                refine ⟨_, w2, smallLt (by rw [List.length_map, List.length_map, List.length_take]; omega), same_app nD w1, ?_⟩
                rw [upd_same, take_snoc hx, List.map_append, List.map_append]
                show some (HO.lst (_ ++ [V.bl (decide (d ∈ Tx.tenS.cps.toList))])) = _
                rw [Tx.ten_fig]
                rfl
              · intro H5 w
                obtain ⟨s5, e5⟩ := w
                rw [show (Tx.figs x).cps.toList.take (Tx.figs x).cps.size = (Tx.figs x).cps.toList from List.take_of_length_le (by simp)] at e5
                repeat walk_at "s"
                refine ⟨D, _, rfl, SqL.new e5, ?_⟩
                have q5 := q H5 s5
                have l2 := Tx.len_figs x
                by_cases ad : NumText.AllDigits (Tx.figs x).cps.toList
                · have g : Tx.good x = true := (Tx.good_iff x).mpr ⟨ad, by rw [ec]; exact List.cons_ne_nil _ _⟩
                  rw [(Tx.figC_all _).mpr ad]
                  repeat walk_at "s"
                  rw [Tx.writ_some ec ad c2 fine] at q5
                  exact ⟨x, Tx.valOf x, rfl, Tx.good_reads g (by omega), by omega, q5⟩
                · rw [show ((Tx.figs x).cps.toList.map Tx.figC).all id = false from Bool.eq_false_iff.mpr fun h => ad ((Tx.figC_all _).mp h)]
                  repeat walk_at "s"
                  rw [Tx.writ_bad ad] at q5
                  exact q5
        · rw [decide_eq_false c2]
          repeat walk_at "s"
          exact no (Tx.writ_far (by omega))
      · rw [decide_eq_false c1]
        refine iteF ?_
        repeat walk_at "s"
        exact no (Tx.writ_none (by omega))

theorem ok_rowin54 {f : Addr} {fd : FuncData} (B : Bt mg) (F : Fun K "_law_row_in" "_law_row_in" slaw_row_in f fd) (claw_number_in : Cal P w K mg base 1 "_law_number_in" ["word"] spNumIn) : FnOk P w K mg base CX0 2 f fd ["text"] spRowInT := by
  have nd := sclaw_row_in.nd
  refine F.ok sclaw_row_in (fun vs H Q E h => ?_) (fun cdv A outer s H vs Q E hr h => ?_)
  · obtain ⟨x, rfl, _⟩ := h
    rfl
  · obtain ⟨x, rfl, lx, q1, q2⟩ := h
    have hu := hr.units
    refine ⟨_, (pss_cons (ps_if (pt_cmpR op_eq (pv 0) pe_str (nomark _)) (pss_one (ps_ret (pe_lst pa_nil))) pss_nil)
      (pss_cons (ps_setLc (i := 2) (own := [("word", 1)]) (by rfl) nd rfl rfl (sw_true rfl rfl rfl (by decide +kernel)) (pi_list (pe_bm PySem.F.plainAttrs_str PySem.F.slot_str_split PySem.F.type_str_split mt_split (pv 0) (pa_cons pe_str pa_nil))) (blkOk_by (own := [("word", 1)]) (N := ["text", "word", "row"]) (sc := defScope slaw_row_in) (by decide +kernel)) (fun _ _ _ _ _ => (pg_name (i := 1) nd rfl (.inl rfl))) (fun _ _ _ _ _ => pts_nil) (fun _ _ _ _ _ => (pe_own claw_number_in (hr.mono (by decide)) (by rfl) (pa_cons (pv 1) pa_nil))))
      (pss_one (ps_ret (pe_ifExp (PW.pt (pw_or (pt_cmpR op_in_seq pe_non (pv 2) rfl) (pw_or1 (pt_cmpR (op_neD hu) (pv 2) (pe_callB cr_sortedI (by rfl) B.sorted_ (by decide +kernel) (pa_cons (pv 2) pa_nil)) (nomark _))))) pe_non (pv 2)))))), ?_⟩
    repeat walk_at "s"
    refine ⟨rfl, _, rfl, ?_⟩
    by_cases z : x = Tx.minus
    · rw [decide_eq_true (show V.str x = V.str Tx.minus by rw [z])]
      refine iteT ?_
      repeat walk_at "s"
      intro p1 np1
      generalize hg1 : upd H p1 _ = H1
      have s1 : Same H H1 := hg1 ▸ same_new np1
      have e1 := (congrFun hg1 p1).symm.trans upd_same
      clear hg1
      exact q1 [] p1 H1 (Tx.rowIn_minus z) s1 e1
    · rw [decide_eq_false (show ¬ V.str x = V.str Tx.minus from fun h => z (V.str.inj h))]
      refine iteF ?_
      repeat walk_at "s"
      refine ⟨rfl, ?_⟩
      repeat walk_at "s"
      refine ⟨small (by omega), ?_⟩
      intro p1 np1
      generalize hg1 : upd H p1 _ = H1
      have s1 : Same H H1 := hg1 ▸ same_new np1
      have e1 := (congrFun hg1 p1).symm.trans upd_same
      clear hg1
      have rx := rowIn_else z
      have ls := Tx.split_tot x
      have wl : ∀ u ∈ Txt.split x Tx.blankS, u.length ≤ 60000 := fun u hu => by
        have h1 := Tx.tot_mem hu
        have h2 := List.length_pos_iff.mpr (Tx.split_ne x)
        omega
      change H1 p1 = some (.lst ((Txt.split x Tx.blankS).map V.str)) at e1
      generalize hw : Txt.split x Tx.blankS = ws at e1 rx ls wl
      refine ⟨p1, rfl, ⟨_, SqL.new e1⟩, ?_⟩
      intro D nD
      refine lc_list (K := K) (a := p1) (xs := ws.map V.str) (fun j H' => Same H1 H' ∧ H' D = some (.lst ((ws.take j).map fun u => optV (Tx.writ u 16)))) ⟨same_new nD, upd_same⟩ (fun j Hj _ w => w.1.seq (SqL.new e1)) (fun j v Hj hv w => ?_) (fun H5 w => ?_)
      · obtain ⟨w1, w2⟩ := w
        obtain ⟨u, hx, rfl⟩ : ∃ u, ws[j]? = some u ∧ v = .str u := by
          rw [List.getElem?_map] at hv
          cases h : ws[j]? with
          | none => rw [h] at hv; cases hv
          | some u => rw [h] at hv; exact ⟨u, rfl, (Option.some.inj hv).symm⟩
        have lj := (List.getElem?_eq_some_iff.mp hx).1
        have lt := wl u (List.mem_of_getElem? hx)
        refine ⟨rfl, ?_⟩
        repeat walk_at "s"
        intro H6 s6
        refine ⟨_, s6 _ _ w2, smallLt (by rw [List.length_map, List.length_take]; omega), same_app nD (w1.trans s6), ?_⟩
        rw [upd_same, take_snoc hx, List.map_append]
        rfl
      obtain ⟨s5, e5⟩ := w
      rw [List.length_map, List.take_length] at e5
      have flat : (ws.map fun u => optV (Tx.writ u 16)).all flatV = true := List.all_eq_true.mpr fun v hv => by
        obtain ⟨u, _, rfl⟩ := List.mem_map.mp hv
        cases Tx.writ u 16 <;> rfl
      repeat walk_at "s"
      refine ⟨D, _, rfl, .inl (SqL.new e5), rfl, flat, ?_⟩
      repeat walk_at "s"
      cases hm : Tx.writAll 16 ws with
      | none =>
        rw [hm] at rx
        dsimp only at rx
        rw [show inV V.non (ws.map fun u => optV (Tx.writ u 16)) = true from List.any_eq_true.mpr ⟨_, opt_no hm, rfl⟩]
        repeat walk_at "s"
        exact q2 rx H5 (s1.trans s5)
      | some ms =>
        rw [hm] at rx
        dsimp only at rx
        have er := opt_row hm
        rw [er] at e5
        have ev : inV V.non (ws.map fun u => optV (Tx.writ u 16)) = false := by
          rw [er]
          refine Bool.eq_false_iff.mpr fun h => ?_
          obtain ⟨v, hv, hh⟩ := List.any_eq_true.mp h
          obtain ⟨n, _, rfl⟩ := List.mem_map.mp hv
          cases hh
        rw [ev]
        refine iteF ?_
        repeat walk_at "s"
        refine ⟨D, ms, rfl, SqL.new e5, fun ns p2 hp hs np2 => ?_⟩
        have s7 := same_new np2 (o := HO.lst (ns.map V.int))
        have e7 : (upd H5 p2 (HO.lst (ns.map V.int))) p2 = some (.lst (ns.map V.int)) := upd_same
        generalize upd H5 p2 (HO.lst (ns.map V.int)) = H7 at s7 e7 ⊢
        refine ⟨_, _, dp_ints (SqL.new (s7 _ _ e5)), dp_ints (SqL.new e7), shaped_ints _, shaped_ints _, ?_⟩
        rw [eqv_ints]
        refine ⟨_, rfl, ?_⟩
        have S := (s1.trans s5).trans s7
        by_cases c : ms.Pairwise (· ≤ ·)
        · have en : ms = ns := by first | exact sorted_one hp c hs | exact (sorted_one hp hs c).symm
          rw [if_pos c] at rx
          rw [decide_eq_true en]
          repeat walk_at "s"
          exact q1 ms D H7 rx S (s7 _ _ e5)
        · rw [if_neg c] at rx
          rw [decide_eq_false (fun en => c (by rw [en]; exact hs))]
          repeat walk_at "s"
          exact q2 rx H7 S

theorem ok_right54 {CP C1 C2 C3 C4 CS f : Addr} {fd : FuncData} (B : Bt mg) (F : Fun K "_law_right" "_law_right" slaw_right f fd) (zVE : mg "ValueError" = none) (rs : Rtx K mg CP C1 C2 C3 C4 CS) (cread_row : Cal P w K mg base 3 "read_row" ["text"] (spReadT K)) (xread_row : Xc.CalX P w K mg base 3 "read_row" ["text"] (spReadTR C4)) (claw_row_in : Cal P w K mg base 2 "_law_row_in" ["text"] spRowInT) : Gd.FnG P w K mg base 4 f fd ["text"] spRightT := by
  have nd := sclaw_right.nd
  refine Gd.okG F sclaw_right (fun vs H Q E h => ?_) (fun cdv A outer s H vs Q E ug hr h => ?_)
  · obtain ⟨x, rfl, _⟩ := h
    rfl
  · obtain ⟨x, rfl, lx, bx, q⟩ := h
    have hu := hr.units
    cases ex : Tx.rowIn x with
    | some ns =>
      refine ⟨_, (pss_cons (ps_set (i := 1) nd rfl (.inl rfl) pe_non)
      (pss_cons (ps_set (i := 2) nd rfl (.inl rfl) (pe_lst pa_nil))
      (Evl.pss_cut (ps_try_as (i := 3) (Wout := fun _ _ _ _ => False) rfl rfl nd rfl rfl ⟨rfl, by decide, .inl rs.gS⟩ takes0 (fun W pn xe tk _ => (pss_one (ps_set (i := 1) nd rfl (.inl rfl) (pe_own cread_row (hr.mono (by decide)) (by rfl) (pa_cons (pv 0) pa_nil))))) (fun a oe cls d pn hz hf => (pss_cons (ps_set (i := 2) nd rfl (.inl rfl) (pe_lst (pa_cons (pe_callB (Ty.call_isW hz hf) (by rfl) B.isinstance_ (by decide +kernel) (pa_cons (pv 3) (pa_cons (pe_glob (v := .ref C4) (by rfl) rs.gC (by rfl)) pa_nil))) (pa_cons (pe_callB (Ty.call_isW hz hf) (by rfl) B.isinstance_ (by decide +kernel) (pa_cons (pv 3) (pa_cons (pe_bltn (v := .ty "ValueError") (by rfl) zVE (by decide +kernel) rfl) pa_nil))) pa_nil))))
      (pss_one (ps_expr (Ty.pe_bmK (K := K) rfl PySem.F.plainAttrs_list PySem.F.slot_list_append PySem.F.type_list_append mt_append (pv 2) (pa_cons (pe_callB (Ty.call_isW hz hf) (by rfl) B.isinstance_ (by decide +kernel) (pa_cons (pv 3) (pa_cons (pe_tup (pa_cons (pe_glob (v := .ref C1) (by rfl) rs.g1 (by rfl)) (pa_cons (pe_glob (v := .ref C3) (by rfl) rs.g3 (by rfl)) (pa_cons (pe_glob (v := .ref CP) (by rfl) rs.gP (by rfl)) (pa_cons (pe_glob (v := .ref C2) (by rfl) rs.g2 (by rfl)) pa_nil))))) pa_nil))) pa_nil)))))))
      (pss_cons (ps_set (i := 4) nd rfl (.inl rfl) (pe_own claw_row_in (hr.mono (by decide)) (by rfl) (pa_cons (pv 0) pa_nil)))
      (pss_cons (ps_if (pt_cmpR op_isN (pv 4) pe_non (nomark _)) (pss_one (ps_ret (pe_cmpR (op_eqD hu) (pv 2) (pe_lst (pa_cons pe_bl (pa_cons pe_bl (pa_cons pe_bl pa_nil)))) (nomark _)))) pss_nil)
      (pss_one (ps_ret (pe_and (pe_cmpR (op_eqD hu) (pv 2) (pe_lst pa_nil) (nomark _)) (pe_one (pe_cmpR op_eq (pe_callB (Gd.call_repr ug hr) (by rfl) B.repr_ (by decide +kernel) (pa_cons (pv 1) pa_nil)) (pe_callB (Gd.call_repr ug hr) (by rfl) B.repr_ (by decide +kernel) (pa_cons (pv 4) pa_nil)) (nomark _))))))))))), ?_⟩
      repeat walk_at "s"
      intro p1 np1
      generalize hg1 : upd H p1 _ = H1
      have s1 : Same H H1 := hg1 ▸ same_new np1
      have e1 := (congrFun hg1 p1).symm.trans upd_same
      clear hg1
      obtain ⟨ln, ls⟩ := rowIn_all ex
      obtain ⟨r1, r2, r3, r4⟩ := Gd.shown_more (ns := ns) (by omega) ls
      refine ⟨fun σ' H' => ∃ r, Same H1 H' ∧ H' r = some (.lst (ns.map V.int)) ∧ σ' = [some (.str x), some (.ref r), some (.ref p1), none, none], ?_, ?_⟩
      · repeat walk_at "s"
        exact ⟨x, ns, rfl, lx, ex, fun r H2 s2 nr er => ⟨r, s2, er, rfl⟩⟩
      · rintro σ' H' ⟨r, s5, e5, rfl⟩
        repeat walk_at "s"
        refine ⟨fun ns2 t H2 ex2 s2 et => ?_, fun h => by rw [ex] at h; cases h⟩
        rw [ex] at ex2
        cases ex2
        repeat walk_at "s"
        intro p3 np3
        generalize hg3 : upd H2 p3 _ = H3
        have s3 : Same H2 H3 := hg3 ▸ same_new np3
        have e3 := (congrFun hg3 p3).symm.trans upd_same
        clear hg3
        refine ⟨_, _, dp_ints (ns := []) (SqL.new (s3 _ _ (s2 _ _ (s5 _ _ e1)))), dp_ints (ns := []) (SqL.new e3), shaped_ints _, shaped_ints _, ?_⟩
        rw [eqv_ints, decide_eq_true rfl]
        repeat walk_at "s"
        refine ⟨r, di ns, rfl, dp_ints (SqL.new (s3 _ _ (s2 _ _ e5))), r1, r2, r3, r4, ?_⟩
        repeat walk_at "s"
        refine ⟨t, di ns, rfl, dp_ints (SqL.new (s3 _ _ et)), r1, r2, r3, r4, ?_⟩
        refine ⟨rfl, ?_⟩
        show Q (.bl (decide _)) H3
        rw [decide_eq_true rfl]
        exact q H3 ((s1.trans s5).trans (s2.trans s3))
    | none =>
      refine ⟨_, (pss_cons (ps_set (i := 1) nd rfl (.inl rfl) pe_non)
      (pss_cons (ps_set (i := 2) nd rfl (.inl rfl) (pe_lst pa_nil))
      (Evl.pss_cut (ps_try_as (i := 3) (Wout := fun _ _ _ _ => False) rfl rfl nd rfl rfl ⟨rfl, by decide, .inl rs.gS⟩ takes0 (fun W pn xe tk _ => (pss_one (ps_set (i := 1) nd rfl (.inl rfl) (Xc.pe_ownS xread_row (hr.mono (by decide)) (by rfl) (pa_cons (pv 0) pa_nil) tk)))) (fun a oe cls d pn hz hf => (pss_cons (ps_set (i := 2) nd rfl (.inl rfl) (pe_lst (pa_cons (pe_callB (Ty.call_isW hz hf) (by rfl) B.isinstance_ (by decide +kernel) (pa_cons (pv 3) (pa_cons (pe_glob (v := .ref C4) (by rfl) rs.gC (by rfl)) pa_nil))) (pa_cons (pe_callB (Ty.call_isW hz hf) (by rfl) B.isinstance_ (by decide +kernel) (pa_cons (pv 3) (pa_cons (pe_bltn (v := .ty "ValueError") (by rfl) zVE (by decide +kernel) rfl) pa_nil))) pa_nil))))
      (pss_one (ps_expr (Ty.pe_bmK (K := K) rfl PySem.F.plainAttrs_list PySem.F.slot_list_append PySem.F.type_list_append mt_append (pv 2) (pa_cons (pe_callB (Ty.call_isW hz hf) (by rfl) B.isinstance_ (by decide +kernel) (pa_cons (pv 3) (pa_cons (pe_tup (pa_cons (pe_glob (v := .ref C1) (by rfl) rs.g1 (by rfl)) (pa_cons (pe_glob (v := .ref C3) (by rfl) rs.g3 (by rfl)) (pa_cons (pe_glob (v := .ref CP) (by rfl) rs.gP (by rfl)) (pa_cons (pe_glob (v := .ref C2) (by rfl) rs.g2 (by rfl)) pa_nil))))) pa_nil))) pa_nil)))))))
      (pss_cons (ps_set (i := 4) nd rfl (.inl rfl) (pe_own claw_row_in (hr.mono (by decide)) (by rfl) (pa_cons (pv 0) pa_nil)))
      (pss_cons (ps_if (pt_cmpR op_isN (pv 4) pe_non (nomark _)) (pss_one (ps_ret (pe_cmpR (op_eqD hu) (pv 2) (pe_lst (pa_cons pe_bl (pa_cons pe_bl (pa_cons pe_bl pa_nil)))) (nomark _)))) pss_nil)
      (pss_one (ps_ret (pe_and (pe_cmpR (op_eqD hu) (pv 2) (pe_lst pa_nil) (nomark _)) (pe_one (pe_cmpR op_eq (pe_callB (Gd.call_repr ug hr) (by rfl) B.repr_ (by decide +kernel) (pa_cons (pv 1) pa_nil)) (pe_callB (Gd.call_repr ug hr) (by rfl) B.repr_ (by decide +kernel) (pa_cons (pv 4) pa_nil)) (nomark _))))))))))), ?_⟩
      repeat walk_at "s"
      intro p1 np1
      generalize hg1 : upd H p1 _ = H1
      have s1 : Same H H1 := hg1 ▸ same_new np1
      have e1 := (congrFun hg1 p1).symm.trans upd_same
      clear hg1
      refine ⟨fun σ' H' => ∃ r, Same H1 H' ∧ H' r = some (.lst [.bl true, .bl true, .bl false]) ∧ σ' = [some (.str x), some .non, some (.ref r), none, none], ?_, ?_⟩
      · repeat walk_at "s"
        intro H2 s2
        refine ⟨true, rs.eC, fun _ a na => ?_, fun h => Bool.noConfusion h⟩
        repeat walk_at "s"
        refine ⟨C4, .ref C4, true, rfl, rfl, rs.is, rfl, .inl ⟨.ref C4, fun u r => r, rs.yes⟩, ?_⟩
        repeat walk_at "s"
        refine ⟨C4, .ty "ValueError", true, rfl, rfl, rs.is, rfl, .inl ⟨.type "ValueError", fun u r => r, rs.val⟩, ?_⟩
        repeat walk_at "s"
        intro p3 np3
        generalize hg3 : upd H2 p3 _ = H3
        have s3 : Same H2 H3 := hg3 ▸ same_new np3
        have e3 := (congrFun hg3 p3).symm.trans upd_same
        clear hg3
        repeat walk_at "s"
        refine ⟨.inl ⟨rfl, _, SqL.new e3⟩, ?_⟩
        repeat walk_at "s"
        intro p4 np4
        generalize hg4 : upd H3 p4 _ = H4
        have s4 : Same H3 H4 := hg4 ▸ same_new np4
        have e4 := (congrFun hg4 p4).symm.trans upd_same
        clear hg4
        refine ⟨C4, .ref p4, false, rfl, rfl, rs.is, rfl, .inr ⟨p4, _, rfl, e4, fun us r => ?_⟩, ?_⟩
        · match us, r with
          | [_, _, _, _], .cons rfl (.cons rfl (.cons rfl (.cons rfl .nil))) => exact rs.no
        repeat walk_at "s"
        refine ⟨p3, _, _, rfl, rfl, s4 _ _ e3, smallLt (by decide), ?_⟩
        refine ⟨p3, fun b o h => ?_, upd_same, rfl⟩
        rw [upd_ne (ne_of_none (s2 _ _ h) np3)]
        exact s4 _ _ (s3 _ _ (s2 _ _ h))
      · rintro σ' H' ⟨r, s5, e5, rfl⟩
        repeat walk_at "s"
        refine ⟨fun ns2 t H2 ex2 s2 et => (by rw [ex] at ex2; cases ex2), fun _ H2 s2 => ?_⟩
        repeat walk_at "s"
        intro p3 np3
        generalize hg3 : upd H2 p3 _ = H3
        have s3 : Same H2 H3 := hg3 ▸ same_new np3
        have e3 := (congrFun hg3 p3).symm.trans upd_same
        clear hg3
        refine ⟨_, _, Dp.lst (SqL.new (s3 _ _ (s2 _ _ e5))) (.cons (.bl true) (.cons (.bl true) (.cons (.bl false) .nil))), Dp.lst (SqL.new e3) (.cons (.bl true) (.cons (.bl true) (.cons (.bl false) .nil))), rfl, rfl, ?_⟩
        exact q H3 ((s1.trans s5).trans (s2.trans s3))

abbrev oddS : Str := "!#!#$ZZ'()'()*./:;<=>?\x40[]^`{|}~abz"
theorem oddS_len : oddS.length = 34 := by decide +kernel
abbrev oneS : Str := "1"
theorem oneS_len : oneS.length = 1 := by decide +kernel
theorem ok_bad54 {f : Addr} {fd : FuncData} (B : Bt mg) (F : Fun K "_law_bad" "_law_bad" slaw_bad f fd) (claw_take : Cal P w K mg base 1 "_law_take" ["deck", "many"] spTk) : FnOk P w K mg base CX0 2 f fd ["deck"] spBadT := by
  have nd := sclaw_bad.nd
  refine F.ok sclaw_bad (fun vs H Q E h => ?_) (fun cdv A outer s H vs Q E hr h => ?_)
  · obtain ⟨n, a, rfl, _⟩ := h
    rfl
  · obtain ⟨n, a, rfl, h0, hn, q⟩ := h
    have hu := hr.units
    refine ⟨_, (pss_cons (ps_set (i := 1) nd rfl (.inl rfl) (pe_lst (pa_cons pe_str (pa_cons pe_str (pa_cons pe_str (pa_cons pe_str (pa_cons pe_str (pa_cons pe_str (pa_cons pe_str (pa_cons pe_str (pa_cons pe_str (pa_cons pe_str (pa_cons pe_str (pa_cons pe_str (pa_cons pe_str (pa_cons pe_str pa_nil))))))))))))))))
      (pss_cons (ps_set (i := 1) nd rfl (.inl rfl) (pe_op op_cat (pv 1) (pe_lst (pa_cons pe_str (pa_cons pe_str (pa_cons (pe_op Ty.op_mul_str pe_str pe_int) (pa_cons (pe_op Ty.op_mul_str pe_str pe_int) (pa_cons (pe_op op_add_str pe_str (pe_op Ty.op_mul_str pe_str pe_int)) (pa_cons (pe_op op_add_str pe_str (pe_op Ty.op_mul_str pe_str pe_int)) (pa_cons (pe_op Ty.op_mul_str pe_str pe_int) pa_nil))))))))))
      (pss_cons (ps_set (i := 1) nd rfl (.inl rfl) (pe_op op_cat (pv 1) (pe_lst (pa_cons (pe_op Ty.op_mul_str pe_str pe_int) (pa_cons pe_str (pa_cons pe_str pa_nil))))))
      (pss_cons (ps_set (i := 2) nd rfl (.inl rfl) pe_str)
      (pss_cons (ps_expr (pe_bm PySem.F.plainAttrs_list PySem.F.slot_list_append PySem.F.type_list_append mt_append (pv 1) (pa_cons (pe_ix ix_str (pv 2) (pe_own claw_take (hr.mono (by decide)) (by rfl) (pa_cons (pv 0) (pa_cons (pe_callB call_len_str (by rfl) B.len_ (by decide +kernel) (pa_cons (pv 2) pa_nil)) pa_nil))) (fun _ _ => rfl)) pa_nil)))
      (pss_cons (ps_expr (pe_bm PySem.F.plainAttrs_list PySem.F.slot_list_append PySem.F.type_list_append mt_append (pv 1) (pa_cons (pe_op op_add_str pe_str (pe_ix ix_str (pv 2) (pe_own claw_take (hr.mono (by decide)) (by rfl) (pa_cons (pv 0) (pa_cons (pe_callB call_len_str (by rfl) B.len_ (by decide +kernel) (pa_cons (pv 2) pa_nil)) pa_nil))) (fun _ _ => rfl))) pa_nil)))
      (pss_one (ps_ret (pe_ix ix_list (pv 1) (pe_own claw_take (hr.mono (by decide)) (by rfl) (pa_cons (pv 0) (pa_cons (pe_callB call_len_seq (by rfl) B.len_ (by decide +kernel) (pa_cons (pv 1) pa_nil)) pa_nil))) (fun _ _ => rfl)))))))))), ?_⟩
    repeat walk_at "s"
    intro p1 np1
    generalize hg1 : upd H p1 _ = H1
    have s1 : Same H H1 := hg1 ▸ same_new np1
    have e1 := (congrFun hg1 p1).symm.trans upd_same
    clear hg1
    have lm : (Tx.minus).length = 1 := by decide +kernel
    repeat walk_at "s"
    intro w1 l1
    repeat walk_at "s"
    intro w2 l2
    repeat walk_at "s"
    intro w3 l3
    refine ⟨_, _, rfl, rfl, small (show (Tx.minus).length + w3.length ≤ 100000 by omega), ?_⟩
    repeat walk_at "s"
    intro w4 l4
    refine ⟨_, _, rfl, rfl, small (show (Tx.minus).length + w4.length ≤ 100000 by omega), ?_⟩
    repeat walk_at "s"
    intro w5 l5
    repeat walk_at "s"
    intro p2 np2
    generalize hg2 : upd H1 p2 _ = H2
    have s2 : Same H1 H2 := hg2 ▸ same_new np2
    have e2 := (congrFun hg2 p2).symm.trans upd_same
    clear hg2
    refine ⟨p1, p2, _, _, rfl, rfl, s2 _ _ e1, e2, small (Nat.le_of_ble_eq_true rfl), ?_⟩
    intro p3 np3
    generalize hg3 : upd H2 p3 _ = H3
    have s3 : Same H2 H3 := hg3 ▸ same_new np3
    have e3 := (congrFun hg3 p3).symm.trans upd_same
    clear hg3
    repeat walk_at "s"
    intro w6 l6
    repeat walk_at "s"
    intro p4 np4
    generalize hg4 : upd H3 p4 _ = H4
    have s4 : Same H3 H4 := hg4 ▸ same_new np4
    have e4 := (congrFun hg4 p4).symm.trans upd_same
    clear hg4
    refine ⟨p3, p4, _, _, rfl, rfl, s4 _ _ e3, e4, small (Nat.le_of_ble_eq_true rfl), ?_⟩
    intro p5 np5
    generalize hg5 : upd H4 p5 _ = H5
    have s5 : Same H4 H5 := hg5 ▸ same_new np5
    have e5 := (congrFun hg5 p5).symm.trans upd_same
    clear hg5
    have la3 : (Tx.minus ++ w3).length ≤ 1000 := by
      show (Tx.minus.cps ++ w3.cps).size ≤ 1000
      rw [Array.size_append]
      have : Tx.minus.cps.size = 1 := lm
      have : w3.cps.size = w3.length := rfl
      omega
    have la4 : (Tx.minus ++ w4).length ≤ 1000 := by
      show (Tx.minus.cps ++ w4.cps).size ≤ 1000
      rw [Array.size_append]
      have : Tx.minus.cps.size = 1 := lm
      have : w4.cps.size = w4.length := rfl
      omega
    obtain ⟨ws, hws, lws, bws⟩ : ∃ ws : List Str, H5 p5 = some (.lst (ws.map V.str)) ∧ ws.length = 24 ∧ ∀ u ∈ ws, u.length ≤ 1000 := by
      rw [e5]
      refine ⟨["", "--", "-", "00", "01", "-0", "-01", "+1", "1.0", "1_0", "x", "0x1", "-+1", "- 1", "1-", "1e3", w1, w2, Tx.minus ++ w3, Tx.minus ++ w4, w5, w6, "1,2", "1\n"], rfl, rfl, fun u hu => ?_⟩
      simp only [List.mem_cons, List.not_mem_nil, or_false] at hu
      rcases hu with rfl | rfl | rfl | rfl | rfl | rfl | rfl | rfl | rfl | rfl | rfl | rfl | rfl | rfl | rfl | rfl | rfl | rfl | rfl | rfl | rfl | rfl | rfl | rfl
      all_goals first | omega | decide +kernel
    repeat walk_at "s"
    have d5 : DeckAt n H5 a := ((((h0.same s1).same s2).same s3).same s4).same s5
    have ol := oddS_len
    have oz : oddS.cps.toList.length = 34 := by rw [Tx.len_cps, oddS_len]
    refine ⟨.inl ⟨rfl, _, SqL.new hws⟩, ?_⟩
    repeat walk_at "s"
    refine ⟨n, a, (oddS.length : Int), rfl, d5, by omega, by rw [ol]; decide, by rw [ol]; decide, fun r6 H6 k6 d6 a6 b6 => ?_⟩
    obtain ⟨c6, hc6, _⟩ := at_draw (xs := oddS.cps.toList) a6 (by omega)
    refine ⟨_, _, c6, rfl, rfl, small (show oddS.length ≤ 100000 by omega), hc6, ?_⟩
    have n5 : p5 ≠ a := DeckAt.ne ((((h0.same s1).same s2).same s3).same s4) np5
    have hws6 := k6.of _ _ hws n5
    refine ⟨p5, _, _, rfl, rfl, hws6, smallLt (by rw [List.length_map]; omega), ?_⟩
    have f5 : H p5 = none := s1.free (s2.free (s3.free (s4.free np5)))
    have K6 : Ky a H H6 := (Ky.same ((((s1.trans s2).trans s3).trans s4).trans s5)).trans k6
    have keep : ∀ {H1 : Hp} {o : HO} {k : Nat}, Ky a H H1 → DeckAt k H1 a → Ky a H (upd H1 p5 o) ∧ DeckAt k (upd H1 p5 o) a := fun {H1 o k} kk dd => by
      refine ⟨⟨fun b o e nb => ?_⟩, ?_⟩
      · rw [upd_ne (ne_of_none e f5)]
        exact kk.of b o e nb
      · obtain ⟨x, g, c, e, r⟩ := dd
        exact ⟨x, g, c, by rw [upd_ne n5.symm]; exact e, r⟩
    obtain ⟨K7, d7⟩ := keep (o := HO.lst (ws.map V.str ++ [V.str ⟨#[c6]⟩])) K6 d6
    have e7 : (upd H6 p5 (HO.lst (ws.map V.str ++ [V.str ⟨#[c6]⟩]))) p5 = some (.lst ((ws ++ [(⟨#[c6]⟩ : Str)]).map V.str)) := by rw [upd_same, List.map_append]; rfl
    generalize upd H6 p5 (HO.lst (ws.map V.str ++ [V.str ⟨#[c6]⟩])) = H7 at K7 d7 e7 ⊢
    repeat walk_at "s"
    refine ⟨.inl ⟨rfl, _, SqL.new e7⟩, ?_⟩
    repeat walk_at "s"
    refine ⟨n + 1, a, (oddS.length : Int), rfl, d7, by omega, by rw [ol]; decide, by rw [ol]; decide, fun r8 H8 k8 d8 a8 b8 => ?_⟩
    obtain ⟨c8, hc8, _⟩ := at_draw (xs := oddS.cps.toList) a8 (by omega)
    refine ⟨_, _, c8, rfl, rfl, small (show oddS.length ≤ 100000 by omega), hc8, ?_⟩
    have on1 := oneS_len
    have sl : (⟨#[c8]⟩ : Str).length = 1 := rfl
    refine ⟨_, _, rfl, rfl, small (show oneS.length + (⟨#[c8]⟩ : Str).length ≤ 100000 by omega), ?_⟩
    have K8 := K7.trans k8
    have e8 := k8.of _ _ e7 n5
    refine ⟨p5, _, _, rfl, rfl, e8, smallLt (by rw [List.length_map, List.length_append]; simp; omega), ?_⟩
    obtain ⟨K9, d9⟩ := keep (o := HO.lst ((ws ++ [(⟨#[c6]⟩ : Str)]).map V.str ++ [V.str (oneS ++ ⟨#[c8]⟩)])) K8 d8
    have e9 : (upd H8 p5 (HO.lst ((ws ++ [(⟨#[c6]⟩ : Str)]).map V.str ++ [V.str (oneS ++ ⟨#[c8]⟩)]))) p5 = some (.lst (((ws ++ [(⟨#[c6]⟩ : Str)]) ++ [oneS ++ ⟨#[c8]⟩]).map V.str)) := by rw [upd_same, List.map_append (l₁ := ws ++ [(⟨#[c6]⟩ : Str)])]; rfl
    generalize upd H8 p5 (HO.lst ((ws ++ [(⟨#[c6]⟩ : Str)]).map V.str ++ [V.str (oneS ++ ⟨#[c8]⟩)])) = H9 at K9 d9 e9 ⊢
    have bv : ∀ u ∈ (ws ++ [(⟨#[c6]⟩ : Str)]) ++ [oneS ++ ⟨#[c8]⟩], u.length ≤ 1000 := fun u hu => by
      rcases List.mem_append.mp hu with h | h
      · rcases List.mem_append.mp h with h | h
        · exact bws u h
        · rw [List.mem_singleton.mp h]
          exact (show (1 : Nat) ≤ 1000 by decide)
      · rw [List.mem_singleton.mp h]
        show (oneS.cps ++ #[c8]).size ≤ 1000
        rw [Array.size_append]
        have : oneS.cps.size = 1 := on1
        simp [this]
    have lv : ((ws ++ [(⟨#[c6]⟩ : Str)]) ++ [oneS ++ ⟨#[c8]⟩]).length = 26 := by simp; omega
    generalize (ws ++ [(⟨#[c6]⟩ : Str)]) ++ [oneS ++ ⟨#[c8]⟩] = vs at e9 bv lv
    repeat walk_at "s"
    refine ⟨p5, _, rfl, .inl (SqL.new e9), ?_⟩
    rw [List.length_map, lv]
    refine ⟨n + 1 + 1, a, 26, rfl, d9, by omega, by decide, by decide, fun r10 H10 k10 d10 a10 b10 => ?_⟩
    obtain ⟨u, hu, hm⟩ := at_draw (xs := vs.map V.str) a10 (by rw [List.length_map, lv]; omega)
    obtain ⟨x, hx, rfl⟩ := List.mem_map.mp hm
    refine ⟨p5, _, _, _, rfl, rfl, SqL.new (k10.of _ _ e9 n5), hu, ?_⟩
    exact q x H10 (bv x hx) (K9.trans k10) d10

abbrev signS : Str := " 0129-_a\n"
theorem signS_len : signS.length = 9 := by decide +kernel
theorem ok_spoilt54 {f : Addr} {fd : FuncData} (B : Bt mg) (F : Fun K "_law_spoilt" "_law_spoilt" slaw_spoilt f fd) (claw_take : Cal P w K mg base 1 "_law_take" ["deck", "many"] spTk) (claw_bad : Cal P w K mg base 2 "_law_bad" ["deck"] spBadT) : FnOk P w K mg base CX0 3 f fd ["deck", "text"] spSpoilt := by
  have nd := sclaw_spoilt.nd
  refine F.ok sclaw_spoilt (fun vs H Q E h => ?_) (fun cdv A outer s H vs Q E hr h => ?_)
  · obtain ⟨n, a, x, rfl, _⟩ := h
    rfl
  · obtain ⟨n, a, x, rfl, h0, hn, lx, bx, q⟩ := h
    have hu := hr.units
    refine ⟨_, (pss_cons (ps_set (i := 2) nd rfl (.inl rfl) (pe_own claw_take (hr.mono (by decide)) (by rfl) (pa_cons (pv 0) (pa_cons pe_int pa_nil))))
      (pss_cons (ps_set (i := 3) nd rfl (.inl rfl) (pe_own claw_take (hr.mono (by decide)) (by rfl) (pa_cons (pv 0) (pa_cons (pe_op op_add (pe_callB call_len_str (by rfl) B.len_ (by decide +kernel) (pa_cons (pv 1) pa_nil)) pe_int) pa_nil))))
      (pss_cons (ps_set (i := 4) nd rfl (.inl rfl) (pe_ix ix_str pe_str (pe_own claw_take (hr.mono (by decide)) (by rfl) (pa_cons (pv 0) (pa_cons pe_int pa_nil))) (fun _ _ => rfl)))
      (pss_cons (ps_if (pt_cmpR op_eq (pv 2) pe_int (nomark _)) (pss_one (ps_ret (pe_op op_add_str (pe_slice C8.sl_txt (pv 1) po_none (po_some (pv 3))) (pe_slice C8.sl_txt (pv 1) (po_some (pe_op op_add (pv 3) pe_int)) po_none)))) pss_nil)
      (pss_cons (ps_if (pt_cmpR op_lt (pv 2) pe_int (nomark _)) (pss_one (ps_ret (pe_op op_add_str (pe_op op_add_str (pe_slice C8.sl_txt (pv 1) po_none (po_some (pv 3))) (pv 4)) (pe_slice C8.sl_txt (pv 1) (po_some (pe_op op_sub (pe_op op_add (pv 3) (pv 2)) pe_int)) po_none)))) pss_nil)
      (pss_cons (ps_set (i := 5) nd rfl (.inl rfl) (pe_bm PySem.F.plainAttrs_str PySem.F.slot_str_split PySem.F.type_str_split mt_split (pv 1) (pa_cons pe_str pa_nil)))
      (pss_cons (ps_set (i := 3) nd rfl (.inl rfl) (pe_own claw_take (hr.mono (by decide)) (by rfl) (pa_cons (pv 0) (pa_cons (pe_op op_add (pe_callB call_len_seq (by rfl) B.len_ (by decide +kernel) (pa_cons (pv 5) pa_nil)) pe_int) pa_nil))))
      (pss_cons (ps_if (pt_cmpR op_eq (pv 2) pe_int (nomark _)) (pss_cons (ps_set (i := 6) nd rfl (.inl rfl) (pe_op op_cat (pe_slice sl_list (pv 5) (po_some (pv 3)) (po_some (pe_op op_add (pv 3) pe_int))) (pe_slice sl_list (pv 5) (po_some (pe_op op_add (pv 3) pe_int)) po_none)))
      (pss_one (ps_ret (pe_bm PySem.F.plainAttrs_str PySem.F.slot_str_join PySem.F.type_str_join mt_join pe_str (pa_cons (pe_op op_cat (pe_op op_cat (pe_slice sl_list (pv 5) po_none (po_some (pv 3))) (pe_slice sl_list (pv 5) (po_some (pe_op op_add (pv 3) pe_int)) (po_some (pe_op op_add (pv 3) pe_int)))) (pv 6)) pa_nil))))) pss_nil)
      (pss_one (ps_ret (pe_bm PySem.F.plainAttrs_str PySem.F.slot_str_join PySem.F.type_str_join mt_join pe_str (pa_cons (pe_op op_cat (pe_op op_cat (pe_slice sl_list (pv 5) po_none (po_some (pv 3))) (pe_lst (pa_cons (pe_own claw_bad (hr.mono (by decide)) (by rfl) (pa_cons (pv 0) pa_nil)) pa_nil))) (pe_slice sl_list (pv 5) (po_some (pe_op op_sub (pe_op op_add (pv 3) (pv 2)) pe_int)) po_none)) pa_nil)))))))))))), ?_⟩
    repeat walk_at "s"
    refine ⟨n, a, 6, rfl, h0, by omega, by decide, by decide, fun way H1 k1 d1 w0 w6 => ?_⟩
    repeat walk_at "s"
    refine ⟨small (show x.length ≤ 100000 by omega), ?_⟩
    repeat walk_at "s"
    refine ⟨n + 1, a, (x.length : Int) + 1, rfl, d1, by omega, by omega, by omega, fun at1 H2 k2 d2 a0 a1 => ?_⟩
    repeat walk_at "s"
    refine ⟨n + 1 + 1, a, 9, rfl, d2, by omega, by decide, by decide, fun r3 H3 k3 d3 r0 r9 => ?_⟩
    have sl := signS_len
    obtain ⟨c, hc, _⟩ := at_draw (xs := signS.cps.toList) r0 (by rw [Tx.len_cps]; omega)
    refine ⟨_, _, c, rfl, rfl, small (show signS.length ≤ 100000 by omega), hc, ?_⟩
    have K3 := (k1.trans k2).trans k3
    have cl : (⟨#[c]⟩ : Str).length = 1 := rfl
    have cb : Tx.blanks (⟨#[c]⟩ : Str) ≤ 1 := Tx.blanks_len _
    repeat walk_at "s"
    refine ⟨rfl, _, rfl, ?_⟩
    have l1 := Tx.slice_len x none (some at1)
    have b1 := Tx.blanks_slice x none (some at1)
    refine ite2 (fun z => ?_) (fun z => ?_)
    · repeat walk_at "s"
      refine ⟨small (show x.length ≤ 100000 by omega), ?_⟩
      repeat walk_at "s"
      refine ⟨small (show x.length ≤ 100000 by omega), ?_⟩
      have l2 := Tx.slice_len x (some (at1 + 1)) none
      have b2 := Tx.blanks_slice x (some (at1 + 1)) none
      refine ⟨_, _, rfl, rfl, small (by omega), ?_⟩
      exact q _ H3 (by rw [Tx.app_len]; omega) (by rw [Tx.blanks_app]; omega) K3 (d3.mono (by omega))
    · repeat walk_at "s"
      refine ite2 (fun z3 => ?_) (fun z3 => ?_)
      · repeat walk_at "s"
        refine ⟨small (show x.length ≤ 100000 by omega), ?_⟩
        repeat walk_at "s"
        refine ⟨small (by omega), ?_⟩
        repeat walk_at "s"
        refine ⟨small (show x.length ≤ 100000 by omega), ?_⟩
        have l2 := Tx.slice_len x (some (at1 + way - 1)) none
        have b2 := Tx.blanks_slice x (some (at1 + way - 1)) none
        refine ⟨_, _, rfl, rfl, small (by rw [Tx.app_len]; omega), ?_⟩
        exact q _ H3 (by rw [Tx.app_len, Tx.app_len]; omega) (by rw [Tx.blanks_app, Tx.blanks_app]; omega) K3 (d3.mono (by omega))
      · repeat walk_at "s"
        refine ⟨rfl, ?_⟩
        repeat walk_at "s"
        refine ⟨small (by omega), ?_⟩
        intro p4 np4
        generalize hg4 : upd H3 p4 _ = H4
        have s4 : Same H3 H4 := hg4 ▸ same_new np4
        have e4 := (congrFun hg4 p4).symm.trans upd_same
        clear hg4
        have st := Tx.split_tot x
        have sb := Tx.split_blanks x
        have fw := Tx.totB_free (Tx.split_free x)
        change H4 p4 = some (.lst ((Txt.split x Tx.blankS).map V.str)) at e4
        generalize Txt.split x Tx.blankS = ws at e4 st sb fw
        have n4 : p4 ≠ a := DeckAt.ne d3 np4
        have d4 := d3.same s4
        repeat walk_at "s"
        refine ⟨p4, _, rfl, .inl (SqL.new e4), ?_⟩
        rw [List.length_map]
        repeat walk_at "s"
        refine ⟨n + 1 + 1 + 1, a, (ws.length : Int) + 1, rfl, d4, by omega, by omega, by omega, fun at2 H5 k5 d5 c0 c1 => ?_⟩
        have e5 := k5.of _ _ e4 n4
        have K5 := (K3.trans (.same s4)).trans k5
        repeat walk_at "s"
        refine ⟨rfl, _, rfl, ?_⟩
        refine ite2 (fun z4 => ?_) (fun z4 => ?_)
        · repeat walk_at "s"
          refine ⟨p4, _, rfl, SqL.new e5, ?_⟩
          intro p6 np6
          generalize hg6 : upd H5 p6 _ = H6
          have s6 : Same H5 H6 := hg6 ▸ same_new np6
          have e6 := (congrFun hg6 p6).symm.trans upd_same
          clear hg6
          obtain ⟨u6, eu6, su6⟩ := Tx.cut_words ws (some at2) (some (at2 + 1))
          rw [eu6] at e6
          repeat walk_at "s"
          refine ⟨p4, _, rfl, SqL.new (s6 _ _ e5), ?_⟩
          intro p7 np7
          generalize hg7 : upd H6 p7 _ = H7
          have s7 : Same H6 H7 := hg7 ▸ same_new np7
          have e7 := (congrFun hg7 p7).symm.trans upd_same
          clear hg7
          obtain ⟨u7, eu7, su7⟩ := Tx.cut_words ws (some (at2 + 2)) none
          rw [eu7] at e7
          have w6 := su6.length_le
          have w7 := su7.length_le
          refine ⟨p6, p7, _, _, rfl, rfl, s7 _ _ e6, e7, small (by rw [List.length_map, List.length_map]; omega), ?_⟩
          intro p8 np8
          generalize hg8 : upd H7 p8 _ = H8
          have s8 : Same H7 H8 := hg8 ▸ same_new np8
          have e8 := (congrFun hg8 p8).symm.trans upd_same
          clear hg8
          rw [← List.map_append] at e8
          repeat walk_at "s"
          refine ⟨rfl, ?_⟩
          repeat walk_at "s"
          have S8 := (s6.trans s7).trans s8
          refine ⟨p4, _, rfl, SqL.new (S8 _ _ e5), ?_⟩
          intro p9 np9
          generalize hg9 : upd H8 p9 _ = H9
          have s9 : Same H8 H9 := hg9 ▸ same_new np9
          have e9 := (congrFun hg9 p9).symm.trans upd_same
          clear hg9
          obtain ⟨u9, eu9, su9⟩ := Tx.cut_words ws none (some at2)
          rw [eu9] at e9
          repeat walk_at "s"
          refine ⟨p4, _, rfl, SqL.new (s9 _ _ (S8 _ _ e5)), ?_⟩
          intro p10 np10
          generalize hg10 : upd H9 p10 _ = H10
          have s10 : Same H9 H10 := hg10 ▸ same_new np10
          have e10 := (congrFun hg10 p10).symm.trans upd_same
          clear hg10
          obtain ⟨u10, eu10, su10⟩ := Tx.cut_words ws (some (at2 + 1)) (some (at2 + 2))
          rw [eu10] at e10
          have w9 := su9.length_le
          have w10 := su10.length_le
          refine ⟨p9, p10, _, _, rfl, rfl, s10 _ _ e9, e10, small (by rw [List.length_map, List.length_map]; omega), ?_⟩
          intro p11 np11
          generalize hg11 : upd H10 p11 _ = H11
          have s11 : Same H10 H11 := hg11 ▸ same_new np11
          have e11 := (congrFun hg11 p11).symm.trans upd_same
          clear hg11
          rw [← List.map_append] at e11
          repeat walk_at "s"
          refine ⟨p11, p8, _, _, rfl, rfl, e11, s11 _ _ (s10 _ _ (s9 _ _ e8)), small (by rw [List.length_map, List.length_map, List.length_append, List.length_append]; omega), ?_⟩
          intro p12 np12
          generalize hg12 : upd H11 p12 _ = H12
          have s12 : Same H11 H12 := hg12 ▸ same_new np12
          have e12 := (congrFun hg12 p12).symm.trans upd_same
          clear hg12
          rw [← List.map_append] at e12
          have t6 := Tx.tot_sub su6
          have t7 := Tx.tot_sub su7
          have t9 := Tx.tot_sub su9
          have t10 := Tx.tot_sub su10
          have B6 := Tx.totB_sub su6
          have B7 := Tx.totB_sub su7
          have B9 := Tx.totB_sub su9
          have B10 := Tx.totB_sub su10
          have T : Tx.tot ((u9 ++ u10) ++ (u6 ++ u7)) ≤ 16010 := by rw [Tx.tot_app, Tx.tot_app, Tx.tot_app]; omega
          have TB : Tx.totB ((u9 ++ u10) ++ (u6 ++ u7)) = 0 := by rw [Tx.totB_app, Tx.totB_app, Tx.totB_app]; omega
          have TL : ((u9 ++ u10) ++ (u6 ++ u7)).length ≤ 1700 := by rw [List.length_append, List.length_append, List.length_append]; omega
          generalize (u9 ++ u10) ++ (u6 ++ u7) = A at e12 T TB TL
          have jl := Tx.join_len A
          have jb := Tx.join_blanks A
          have lb : Tx.blankS.length = 1 := by decide +kernel
          refine ⟨Tx.blankS, p12, A, rfl, rfl, .inl (SqL.new e12), by rw [Tx.tot_sum, lb]; omega, ?_⟩
          exact q _ H12 (by omega) (by omega) (K5.trans (.same ((((S8.trans s9).trans s10).trans s11).trans s12))) (((d5.same (((((S8.trans s9).trans s10).trans s11).trans s12))).mono (by omega)))
        · refine ⟨rfl, ?_⟩
          repeat walk_at "s"
          refine ⟨p4, _, rfl, SqL.new e5, ?_⟩
          intro p6 np6
          generalize hg6 : upd H5 p6 _ = H6
          have s6 : Same H5 H6 := hg6 ▸ same_new np6
          have e6 := (congrFun hg6 p6).symm.trans upd_same
          clear hg6
          obtain ⟨u6, eu6, su6⟩ := Tx.cut_words ws none (some at2)
          rw [eu6] at e6
          have w6 := su6.length_le
          have n6 : p6 ≠ a := DeckAt.ne d5 np6
          repeat walk_at "s"
          refine ⟨_, a, rfl, d5.same s6, by omega, fun y H7 ly k7 d7 => ?_⟩
          repeat walk_at "s"
          intro p8 np8
          generalize hg8 : upd H7 p8 _ = H8
          have s8 : Same H7 H8 := hg8 ▸ same_new np8
          have e8 := (congrFun hg8 p8).symm.trans upd_same
          clear hg8
          have e86 := s8 _ _ (k7.of _ _ e6 n6)
          have e85 := s8 _ _ (k7.of _ _ (s6 _ _ e5) n4)
          refine ⟨p6, p8, _, _, rfl, rfl, e86, e8, small (by rw [List.length_map]; simp; omega), ?_⟩
          intro p9 np9
          generalize hg9 : upd H8 p9 _ = H9
          have s9 : Same H8 H9 := hg9 ▸ same_new np9
          have e9 := (congrFun hg9 p9).symm.trans upd_same
          clear hg9
          repeat walk_at "s"
          refine ⟨p4, _, rfl, SqL.new (s9 _ _ e85), ?_⟩
          intro p10 np10
          generalize hg10 : upd H9 p10 _ = H10
          have s10 : Same H9 H10 := hg10 ▸ same_new np10
          have e10 := (congrFun hg10 p10).symm.trans upd_same
          clear hg10
          obtain ⟨u10, eu10, su10⟩ := Tx.cut_words ws (some (at2 + way - 4)) none
          rw [eu10] at e10
          have w10 := su10.length_le
          refine ⟨p9, p10, _, _, rfl, rfl, s10 _ _ e9, e10, small (by rw [List.length_append, List.length_map, List.length_map]; simp; omega), ?_⟩
          intro p11 np11
          generalize hg11 : upd H10 p11 _ = H11
          have s11 : Same H10 H11 := hg11 ▸ same_new np11
          have e11 := (congrFun hg11 p11).symm.trans upd_same
          clear hg11
          have e11' : H11 p11 = some (.lst (((u6 ++ [y]) ++ u10).map V.str)) := by rw [e11, List.map_append, List.map_append]; rfl
          have t6 := Tx.tot_sub su6
          have t10 := Tx.tot_sub su10
          have B6 := Tx.totB_sub su6
          have B10 := Tx.totB_sub su10
          have by' := Tx.blanks_len y
          have ty : Tx.tot [y] = y.length := rfl
          have tyb : Tx.totB [y] = Tx.blanks y := rfl
          have T : Tx.tot ((u6 ++ [y]) ++ u10) ≤ 10000 := by rw [Tx.tot_app, Tx.tot_app, ty]; omega
          have TB : Tx.totB ((u6 ++ [y]) ++ u10) ≤ 1000 := by rw [Tx.totB_app, Tx.totB_app, tyb]; omega
          have TL : ((u6 ++ [y]) ++ u10).length ≤ 900 := by rw [List.length_append, List.length_append, List.length_singleton]; omega
          generalize (u6 ++ [y]) ++ u10 = A at e11' T TB TL
          have jl := Tx.join_len A
          have jb := Tx.join_blanks A
          have lb : Tx.blankS.length = 1 := by decide +kernel
          refine ⟨Tx.blankS, p11, A, rfl, rfl, .inl (SqL.new e11'), by rw [Tx.tot_sum, lb]; omega, ?_⟩
          exact q _ H11 (by omega) (by omega) (((K5.trans (.same s6)).trans k7).trans (.same (((s8.trans s9).trans s10).trans s11))) ((d7.same (((s8.trans s9).trans s10).trans s11)).mono (by omega))

theorem ok_law54 {f : Addr} {fd : FuncData} (B : Bt mg) (F : Fun K "law" "law" slaw f fd) (claw_take : Cal P w K mg base 1 "_law_take" ["deck", "many"] spTk) (claw_deck : Cal P w K mg base 1 "_law_deck" ["cell", "k"] spDk) (claw_row : Cal P w K mg base 3 "_law_row" ["deck", "most"] spRowK)
    (claw_spoilt : Cal P w K mg base 3 "_law_spoilt" ["deck", "text"] spSpoilt) (claw_right : Gd.CalG P w K mg base 4 "_law_right" ["text"] spRightT) : Gd.FnG P w K mg base 5 f fd ["script"] (spLaw K) := by
  have nd := sclaw.nd
  refine Gd.okG F sclaw (fun vs H Q E h => ?_) (fun cdv A outer s H vs Q E ug hr h => ?_)
  · obtain ⟨a, ns, rfl, _⟩ := h
    rfl
  · obtain ⟨sc, zs, rfl, hS, hlen, q⟩ := h
    have hu := hr.units
    refine ⟨_, (pss_cons (ps_for PassesOwn.never rfl (pi_list (pe_op op_cat (pe_slice sl_list (pv 0) po_none (po_some pe_int)) (pe_lst (pa_cons pe_int (pa_cons pe_int pa_nil))))) (pg_name (i := 1) nd rfl (.inl rfl)) (pss_cons (ps_set (i := 2) nd rfl (.inl rfl) (pe_own claw_deck (hr.mono (by decide)) (by rfl) (pa_cons (pv 1) (pa_cons pe_int pa_nil))))
      (pss_cons (ps_set (i := 3) nd rfl (.inl rfl) (pe_own claw_row (hr.mono (by decide)) (by rfl) (pa_cons (pv 2) (pa_cons (pe_ix ix_list (pe_lst (pa_cons pe_int (pa_cons pe_int pa_nil))) (pe_callTy call_int1 (by rfl) B.int_ (by decide +kernel) (pa_cons (pe_cmpR op_eq (pe_own claw_take (hr.mono (by decide)) (by rfl) (pa_cons (pv 2) (pa_cons pe_int pa_nil))) pe_int (nomark _)) pa_nil)) (fun _ _ => rfl)) pa_nil))))
      (Evl.pss_cut (ps_set (i := 5) nd rfl (.inl rfl) (pe_ifExp (pt_cmpR (op_eqD hu) (pv 3) (pe_lst pa_nil) (nomark _)) pe_str (pe_bm PySem.F.plainAttrs_str PySem.F.slot_str_join PySem.F.type_str_join mt_join pe_str (pa_cons (pe_lc (own := [("number", 4)]) (by rfl) nd (pi_list (pv 3)) (blkOk_by (own := [("number", 4)]) (N := ["script", "cell", "deck", "row", "number", "text"]) (sc := defScope slaw) (by decide +kernel)) (fun _ _ _ _ _ => (pg_name (i := 4) nd rfl (.inl rfl))) (fun _ _ _ _ _ => pts_nil) (fun _ _ _ _ _ => (pe_callTy call_str_int (by rfl) B.str_ (by decide +kernel) (pa_cons (pv 4) pa_nil)))) pa_nil))))
      (pss_one (ps_if (PW.pt (pw_or (pt_not (pt_val (Gd.pe_ownG claw_right ug (hr.mono (by decide)) (by rfl) (pa_cons (pv 5) pa_nil)))) (pw_or1 (pt_not (pt_val (Gd.pe_ownG claw_right ug (hr.mono (by decide)) (by rfl) (pa_cons (pe_own claw_spoilt (hr.mono (by decide)) (by rfl) (pa_cons (pv 2) (pa_cons (pv 5) pa_nil))) pa_nil))))))) (pss_one (ps_ret pe_bl)) pss_nil))))))
      (pss_one (ps_ret pe_bl))), ?_⟩
    repeat walk_at "s"
    refine ⟨sc, zs.map V.int, rfl, hS, ?_⟩
    intro p2 np2
    generalize hg2 : upd H p2 _ = H2
    have s2 : Same H H2 := hg2 ▸ same_new np2
    have e2 := (congrFun hg2 p2).symm.trans upd_same
    clear hg2
    obtain ⟨u1, eu1, lu1, _⟩ := cut_map (ns := zs) none (some 40)
    rw [eu1] at e2
    repeat walk_at "s"
    intro p3 np3
    generalize hg3 : upd H2 p3 _ = H3
    have s3 : Same H2 H3 := hg3 ▸ same_new np3
    have e3 := (congrFun hg3 p3).symm.trans upd_same
    clear hg3
    refine ⟨p2, p3, _, _, rfl, rfl, s3 _ _ e2, e3, small (by rw [List.length_map]; simp; omega), ?_⟩
    intro p4 np4
    generalize hg4 : upd H3 p4 _ = H4
    have s4 : Same H3 H4 := hg4 ▸ same_new np4
    have e4 := (congrFun hg4 p4).symm.trans upd_same
    clear hg4
    obtain ⟨cs, hcs⟩ : ∃ cs : List Int, u1.map V.int ++ [V.int 0, V.int 1] = cs.map V.int := ⟨u1 ++ [0, 1], by simp⟩
    rw [hcs] at e4
    repeat walk_at "s"
    refine ⟨⟨_, SqL.new e4⟩, ?_⟩
    refine for_list (K := K) (a := p4) (xs := cs.map V.int) (fun i σ H' => Same H4 H' ∧ ∃ v1 v2 v3 v4 v5 : Option V, σ = [some (.ref sc), v1, v2, v3, v4, v5])
      ⟨.refl _, _, _, _, _, _, rfl⟩ (fun i σ Hi _ w => SqL.new (w.1 _ _ e4)) (fun i x σ H5 hx w => ?_) (fun σ H5 w => ?_)
    · obtain ⟨S5, v1, v2, v3, v4, v5, rfl⟩ := w
      obtain ⟨c, hc, rfl⟩ := int_at hx
      repeat walk_at "s"
      refine ⟨c, 5, rfl, by decide, by decide, fun a H6 s6 na6 d6 => ?_⟩
      repeat walk_at "s"
      intro p7 np7
      generalize hg7 : upd H6 p7 _ = H7
      have s7 : Same H6 H7 := hg7 ▸ same_new np7
      have e7 := (congrFun hg7 p7).symm.trans upd_same
      clear hg7
      have d7 := d6.same s7
      have n7 : p7 ≠ a := DeckAt.ne d6 np7
      repeat walk_at "s"
      refine ⟨10, a, 6, rfl, d7, by omega, by decide, by decide, fun r8 H8 k8 d8 r0 r6 => ?_⟩
      repeat walk_at "s"
      refine ⟨rfl, ?_⟩
      obtain ⟨bb, hb⟩ : ∃ bb, decide (V.int r8 = V.int 0) = bb := ⟨_, rfl⟩
      rw [hb]
      refine .inr ⟨bb, rfl, ?_⟩
      obtain ⟨m, hm, hat⟩ : ∃ m : Nat, m ≤ 200 ∧ atI [V.int 20, V.int 200] (if bb = true then 1 else 0) = some (.int (m : Int)) := by
        cases bb
        · exact ⟨20, by decide, at0⟩
        · exact ⟨200, by decide, at1⟩
      refine ⟨p7, _, _, _, rfl, rfl, SqL.new (k8.of _ _ e7 n7), hat, ?_⟩
      refine ⟨10 + 1, a, m, rfl, d8, by omega, by omega, fun p ns H9 k9 np9 e9 d9 l9 f9 => ?_⟩
      have npa : p ≠ a := DeckAt.ne d8 np9
      have S9 : Same H5 H9 := fun b o h => k9.of b o (k8.of b o (s7 _ _ (s6 _ _ h)) (ne_of_none h na6)) (ne_of_none h na6)
      repeat walk_at "s"
      refine ⟨fun σ' H' => Same H9 H' ∧ ∃ v4 : Option V, σ' = [some (.ref sc), some (.int c), some (.ref a), some (.ref p), v4, some (.str (Tx.rowText ns))], ?_, ?_⟩
      · repeat walk_at "s"
        intro p10 np10
        generalize hg10 : upd H9 p10 _ = H10
        have s10 : Same H9 H10 := hg10 ▸ same_new np10
        have e10 := (congrFun hg10 p10).symm.trans upd_same
        clear hg10
        refine ⟨_, _, dp_ints (SqL.new (s10 _ _ e9)), dp_ints (ns := []) (SqL.new e10), shaped_ints _, shaped_ints _, ?_⟩
        rw [eqv_ints]
        refine ⟨_, rfl, ?_⟩
        have S10 := s10.seq (SqL.new (K := K) e9)
        by_cases z : ns = []
        · rw [decide_eq_true z]
          repeat walk_at "s"
          refine ⟨v4, ?_⟩
          rw [z]
          rfl
        · rw [decide_eq_false z]
          refine ⟨rfl, ?_⟩
          repeat walk_at "s"
          refine ⟨⟨_, S10⟩, ?_⟩
          intro D nD
          have sm := f9.smallT
          refine lc_list (K := K) (a := p) (xs := ns.map V.int) (fun j H' => Same H10 H' ∧ H' D = some (.lst (((ns.take j).map Tx.toStr).map V.str))) ⟨same_new nD, upd_same⟩ (fun j Hj _ w => w.1.seq S10) (fun j v Hj hv w => ?_) (fun H5 w => ?_)
          · obtain ⟨w1, w2⟩ := w
            obtain ⟨x, hx, rfl⟩ := int_at hv
            have lj := (List.getElem?_eq_some_iff.mp hx).1
            refine ⟨rfl, ?_⟩
            repeat walk_at "s"
            refine ⟨(sm x (List.mem_of_getElem? hx)).log, ?_⟩
            refine ⟨_, w2, smallLt (by rw [List.length_map, List.length_map, List.length_take]; omega), same_app nD w1, ?_⟩
            rw [upd_same, take_snoc hx, List.map_append, List.map_append]
            rfl
          obtain ⟨s11, e11⟩ := w
          rw [List.length_map, List.take_length] at e11
          have lsum := Tx.sum_len (ns := ns) fun n hn => (sm n hn).abs
          have lb : Tx.blankS.length = 1 := by decide +kernel
          refine ⟨Tx.blankS, D, ns.map Tx.toStr, rfl, rfl, .inl (SqL.new e11), by rw [List.length_map, lb]; omega, ?_⟩
          have er : Tx.rowText ns = Txt.join Tx.blankS (ns.map Tx.toStr) := by unfold Tx.rowText; rw [if_neg z, Tx.join_eq]
          refine ⟨s10.trans s11, v4, ?_⟩
          rw [er]
          rfl
      · rintro σ' H10 ⟨S10, v4', rfl⟩
        repeat walk_at "s"
        have rl := Tx.row_len (ns := ns) fun n hn => (f9.smallT n hn).abs
        have rb := Tx.row_blanks ns
        refine ⟨by omega, by omega, fun H11 s11 => ?_⟩
        repeat walk_at "s"
        refine ⟨_, a, Tx.rowText ns, rfl, (d9.same S10).same s11, by omega, by omega, by omega, fun y H12 ly by12 k12 d12 => ?_⟩
        repeat walk_at "s"
        intro H13 s13
        repeat walk_at "s"
        have SS : Same H5 H13 := fun b o h => s13 _ _ (k12.of b o (s11 _ _ (S10 _ _ (S9 _ _ h))) (ne_of_none h na6))
        exact ⟨S5.trans SS, _, _, _, _, _, rfl⟩
    · obtain ⟨S5, v1, v2, v3, v4, v5, rfl⟩ := w
      repeat walk_at "s"
      exact q _

end
theorem all_mk {l : PySem.W.OpenLaw} {w : World} {K : PySem.W.Frag} {h : Heap} {mg : Str → Option Value} {fa f0 f1 f2 f3 f4 f5 f6 f7 f8 f9 f10 f11 f12 f13 : Addr} (X : K.In h) (G : h.Ns mainGlobals mg) (hfa : mg "law" = some (.ref fa))
    {od0 an0 od1 an1 od2 an2 od3 an3 od4 an4 od5 an5 od6 an6 od7 an7 od8 an8 od9 an9 od10 an10 od11 an11 od12 an12 od13 an13 : Option Addr} {sl0 sl1 sl2 sl3 sl4 sl5 sl6 sl7 sl8 sl9 sl10 sl11 sl12 sl13 : Array (Option Value)} {oc0 kV0 dc0 pm0 ct0 cd0 oc1 kV1 dc1 pm1 ct1 cd1 oc2 kV2 dc2 pm2 ct2 cd2 oc3 kV3 dc3 pm3 ct3 cd3 oc4 kV4 dc4 pm4 ct4 cd4 oc5 kV5 dc5 pm5 ct5 cd5 oc6 kV6 dc6 pm6 ct6 cd6 oc7 kV7 dc7 pm7 ct7 cd7 oc8 kV8 dc8 pm8 ct8 cd8 oc9 kV9 dc9 pm9 ct9 cd9 oc10 kV10 dc10 pm10 ct10 cd10 oc11 kV11 dc11 pm11 ct11 cd11 oc12 kV12 dc12 pm12 ct12 cd12 oc13 kV13 dc13 pm13 ct13 cd13 : Value}
    (a0 : PySem.W.nsIn K mainGlobals "_law_take" = some (some (.ref f0))) (l0 : K.lookup f0 = some ⟨oc0, od0, .func (PySem.W.fnOf "_law_take" "_law_take" (defArgs slaw_take) (defBody slaw_take) (defScope slaw_take) .none kV0 dc0 pm0 an0 cd0 ct0), sl0⟩) (c0 : PySem.W.codeIn K cd0 "_law_take" = true) (k0 : PySem.W.keepIn K (.ref f0) = true)
    (a1 : PySem.W.nsIn K mainGlobals "_law_deck" = some (some (.ref f1))) (l1 : K.lookup f1 = some ⟨oc1, od1, .func (PySem.W.fnOf "_law_deck" "_law_deck" (defArgs slaw_deck) (defBody slaw_deck) (defScope slaw_deck) .none kV1 dc1 pm1 an1 cd1 ct1), sl1⟩) (c1 : PySem.W.codeIn K cd1 "_law_deck" = true) (k1 : PySem.W.keepIn K (.ref f1) = true)
    (a2 : PySem.W.nsIn K mainGlobals "_law_number" = some (some (.ref f2))) (l2 : K.lookup f2 = some ⟨oc2, od2, .func (PySem.W.fnOf "_law_number" "_law_number" (defArgs slaw_number) (defBody slaw_number) (defScope slaw_number) .none kV2 dc2 pm2 an2 cd2 ct2), sl2⟩) (c2 : PySem.W.codeIn K cd2 "_law_number" = true) (k2 : PySem.W.keepIn K (.ref f2) = true)
    (a3 : PySem.W.nsIn K mainGlobals "_law_row" = some (some (.ref f3))) (l3 : K.lookup f3 = some ⟨oc3, od3, .func (PySem.W.fnOf "_law_row" "_law_row" (defArgs slaw_row) (defBody slaw_row) (defScope slaw_row) .none kV3 dc3 pm3 an3 cd3 ct3), sl3⟩) (c3 : PySem.W.codeIn K cd3 "_law_row" = true) (k3 : PySem.W.keepIn K (.ref f3) = true)
    (a4 : PySem.W.nsIn K mainGlobals "is_whole" = some (some (.ref f4))) (l4 : K.lookup f4 = some ⟨oc4, od4, .func (PySem.W.fnOf "is_whole" "is_whole" (defArgs sis_whole) (defBody sis_whole) (defScope sis_whole) .none kV4 dc4 pm4 an4 cd4 ct4), sl4⟩) (c4 : PySem.W.codeIn K cd4 "is_whole" = true) (k4 : PySem.W.keepIn K (.ref f4) = true)
    (a5 : PySem.W.nsIn K mainGlobals "is_row" = some (some (.ref f5))) (l5 : K.lookup f5 = some ⟨oc5, od5, .func (PySem.W.fnOf "is_row" "is_row" (defArgs sis_row) (defBody sis_row) (defScope sis_row) .none kV5 dc5 pm5 an5 cd5 ct5), sl5⟩) (c5 : PySem.W.codeIn K cd5 "is_row" = true) (k5 : PySem.W.keepIn K (.ref f5) = true)
    (a6 : PySem.W.nsIn K mainGlobals "written_number" = some (some (.ref f6))) (l6 : K.lookup f6 = some ⟨oc6, od6, .func (PySem.W.fnOf "written_number" "written_number" (defArgs swritten_number) (defBody swritten_number) (defScope swritten_number) .none kV6 dc6 pm6 an6 cd6 ct6), sl6⟩) (c6 : PySem.W.codeIn K cd6 "written_number" = true) (k6 : PySem.W.keepIn K (.ref f6) = true)
    (a7 : PySem.W.nsIn K mainGlobals "read_row" = some (some (.ref f7))) (l7 : K.lookup f7 = some ⟨oc7, od7, .func (PySem.W.fnOf "read_row" "read_row" (defArgs sread_row) (defBody sread_row) (defScope sread_row) .none kV7 dc7 pm7 an7 cd7 ct7), sl7⟩) (c7 : PySem.W.codeIn K cd7 "read_row" = true) (k7 : PySem.W.keepIn K (.ref f7) = true)
    (a8 : PySem.W.nsIn K mainGlobals "_law_bad" = some (some (.ref f8))) (l8 : K.lookup f8 = some ⟨oc8, od8, .func (PySem.W.fnOf "_law_bad" "_law_bad" (defArgs slaw_bad) (defBody slaw_bad) (defScope slaw_bad) .none kV8 dc8 pm8 an8 cd8 ct8), sl8⟩) (c8 : PySem.W.codeIn K cd8 "_law_bad" = true) (k8 : PySem.W.keepIn K (.ref f8) = true)
    (a9 : PySem.W.nsIn K mainGlobals "_law_spoilt" = some (some (.ref f9))) (l9 : K.lookup f9 = some ⟨oc9, od9, .func (PySem.W.fnOf "_law_spoilt" "_law_spoilt" (defArgs slaw_spoilt) (defBody slaw_spoilt) (defScope slaw_spoilt) .none kV9 dc9 pm9 an9 cd9 ct9), sl9⟩) (c9 : PySem.W.codeIn K cd9 "_law_spoilt" = true) (k9 : PySem.W.keepIn K (.ref f9) = true)
    (a10 : PySem.W.nsIn K mainGlobals "_law_number_in" = some (some (.ref f10))) (l10 : K.lookup f10 = some ⟨oc10, od10, .func (PySem.W.fnOf "_law_number_in" "_law_number_in" (defArgs slaw_number_in) (defBody slaw_number_in) (defScope slaw_number_in) .none kV10 dc10 pm10 an10 cd10 ct10), sl10⟩) (c10 : PySem.W.codeIn K cd10 "_law_number_in" = true) (k10 : PySem.W.keepIn K (.ref f10) = true)
    (a11 : PySem.W.nsIn K mainGlobals "_law_row_in" = some (some (.ref f11))) (l11 : K.lookup f11 = some ⟨oc11, od11, .func (PySem.W.fnOf "_law_row_in" "_law_row_in" (defArgs slaw_row_in) (defBody slaw_row_in) (defScope slaw_row_in) .none kV11 dc11 pm11 an11 cd11 ct11), sl11⟩) (c11 : PySem.W.codeIn K cd11 "_law_row_in" = true) (k11 : PySem.W.keepIn K (.ref f11) = true)
    (a12 : PySem.W.nsIn K mainGlobals "_law_right" = some (some (.ref f12))) (l12 : K.lookup f12 = some ⟨oc12, od12, .func (PySem.W.fnOf "_law_right" "_law_right" (defArgs slaw_right) (defBody slaw_right) (defScope slaw_right) .none kV12 dc12 pm12 an12 cd12 ct12), sl12⟩) (c12 : PySem.W.codeIn K cd12 "_law_right" = true) (k12 : PySem.W.keepIn K (.ref f12) = true)
    (a13 : PySem.W.nsIn K mainGlobals "law" = some (some (.ref f13))) (l13 : K.lookup f13 = some ⟨oc13, od13, .func (PySem.W.fnOf "law" "law" (defArgs slaw) (defBody slaw) (defScope slaw) .none kV13 dc13 pm13 an13 cd13 ct13), sl13⟩) (c13 : PySem.W.codeIn K cd13 "law" = true) (k13 : PySem.W.keepIn K (.ref f13) = true)
    {tFI : Tok} (aFI : PySem.W.nsIn K mainGlobals "FIGURES" = some (some (.int 16 tFI)))
    (zall : PySem.W.nsIn K mainGlobals "all" = some none)
    {CP CS C1 C2 C3 C4 : Addr}
    (aC4 : PySem.W.nsIn K mainGlobals "NoText" = some (some (.ref C4)))
    (aS : PySem.W.nsIn K mainGlobals "SumError" = some (some (.ref CS)))
    (aC1 : PySem.W.nsIn K mainGlobals "NoCommand" = some (some (.ref C1)))
    (aC3 : PySem.W.nsIn K mainGlobals "NoNumber" = some (some (.ref C3)))
    (aCP : PySem.W.nsIn K mainGlobals "NoPlace" = some (some (.ref CP)))
    (aC2 : PySem.W.nsIn K mainGlobals "NoSide" = some (some (.ref C2)))
    (xx4 : PySem.W.excIn K C4 [.type "ValueError", .type "Exception", .type "BaseException", .type "object"] "ValueError.__new__" = true)
    (kk4 : PySem.W.keepIn K (.ref C4) = true)
    (bb4 : PySem.W.subIn K (.ref C4) (.type "BaseException") = some true)
    (tt4 : PySem.W.typeIn K (.ref C4) = some (.type "type"))
    (bS : PySem.W.subIn K (.ref CS) (.type "BaseException") = some true)
    (hS : PySem.W.hasDictIn K CS = true)
    (tS : PySem.W.typeIn K (.ref CS) = some (.type "type"))
    (ss4 : PySem.W.subIn K (.ref C4) (.ref CS) = some true)
    (eg4 : PySem.W.findIn K (.ref C4) "__getattribute__" = some (some (.builtin "BaseException.__getattribute__")))
    (ek4 : PySem.W.findIn K (.ref C4) "__getattr__" = some none)
    (hh4 : PySem.W.hasDictIn K C4 = true)
    (ec4 : PySem.W.findIn K (.ref C4) "__class__" = some (some (.builtin "object.__class__")))
    (en : PySem.W.specialIn K (.builtin "object.__class__") "__get__" = some (some (.builtin "getset_descriptor.__get__")))
    (et : PySem.W.takesIn K (.builtin "object.__class__") = some true)
    (em4 : PySem.W.mroIn K C4 (.type "object") = some true)
    (fno4 : PySem.W.kitAny K (.ref C4) [.ref C1, .ref C3, .ref CP, .ref C2] = some false)
    (fk44 : PySem.W.kitOne K (.ref C4) (.ref C4) = some true)
    (fval4 : PySem.W.kitOne K (.ref C4) (.type "ValueError") = some true)
    (zve : PySem.W.nsIn K mainGlobals "ValueError" = some none)
    (zlen : PySem.W.nsIn K mainGlobals "len" = some none)
    (zlist : PySem.W.nsIn K mainGlobals "list" = some none)
    (zenumerate : PySem.W.nsIn K mainGlobals "enumerate" = some none)
    (zint : PySem.W.nsIn K mainGlobals "int" = some none)
    (zbool : PySem.W.nsIn K mainGlobals "bool" = some none)
    (zsum : PySem.W.nsIn K mainGlobals "sum" = some none)
    (zsorted : PySem.W.nsIn K mainGlobals "sorted" = some none)
    (zmin : PySem.W.nsIn K mainGlobals "min" = some none)
    (zmax : PySem.W.nsIn K mainGlobals "max" = some none)
    (zrange : PySem.W.nsIn K mainGlobals "range" = some none)
    (zisinstance : PySem.W.nsIn K mainGlobals "isinstance" = some none)
    (zrepr : PySem.W.nsIn K mainGlobals "repr" = some none)
    (ztuple : PySem.W.nsIn K mainGlobals "tuple" = some none)
    (zdict : PySem.W.nsIn K mainGlobals "dict" = some none)
    (zabs : PySem.W.nsIn K mainGlobals "abs" = some none)
    (zstr : PySem.W.nsIn K mainGlobals "str" = some none)
    : ∃ fd : FuncData, (∀ (s : Shared) (v : Value), BindsTo s fd ⟨[v], []⟩ [("script", v)]) ∧ ∀ base : Heap, K.In base → base.Ns mainGlobals mg → Gd.FnG l.prog w K mg base 5 fa fd ["script"] (spLaw K) := by
  have e := hfa.symm.trans (PySem.W.mg_of X G a13)
  cases e
  have B : Bt mg := ⟨PySem.W.mg_none_of X G zlen, PySem.W.mg_none_of X G zlist, PySem.W.mg_none_of X G zenumerate, PySem.W.mg_none_of X G zint, PySem.W.mg_none_of X G zbool, PySem.W.mg_none_of X G zsum, PySem.W.mg_none_of X G zsorted, PySem.W.mg_none_of X G zmin, PySem.W.mg_none_of X G zmax, PySem.W.mg_none_of X G zrange, PySem.W.mg_none_of X G zisinstance, PySem.W.mg_none_of X G zrepr, PySem.W.mg_none_of X G ztuple, PySem.W.mg_none_of X G zdict, PySem.W.mg_none_of X G zabs, PySem.W.mg_none_of X G zstr⟩
  have figs := PySem.W.mg_of X G aFI
  have zAll := PySem.W.mg_none_of X G zall
  have rs : Rtx K mg CP C1 C2 C3 C4 CS := ⟨PySem.W.mg_of X G aS, PySem.W.mg_of X G aC4, PySem.W.mg_of X G aC1, PySem.W.mg_of X G aC2, PySem.W.mg_of X G aC3, PySem.W.mg_of X G aCP, xx4, kk4, bb4, tt4, PySem.W.exm_ref bS hS tS ss4, ⟨eg4, ek4, bb4, hh4, ec4, en, et, em4⟩, fno4, fk44, fval4⟩
  have zVE := PySem.W.mg_none_of X G zve
  have F0 := fun_mk (st := slaw_take) l0 c0 k0
  have b0 := F0.binds (ps := ["deck", "many"]) fun _ _ _ _ _ _ us hl => match us, hl with | [_, _], _ => rfl
  have F1 := fun_mk (st := slaw_deck) l1 c1 k1
  have b1 := F1.binds (ps := ["cell", "k"]) fun _ _ _ _ _ _ us hl => match us, hl with | [_, _], _ => rfl
  have F2 := fun_mk (st := slaw_number) l2 c2 k2
  have b2 := F2.binds (ps := ["deck"]) fun _ _ _ _ _ _ us hl => match us, hl with | [_], _ => rfl
  have F3 := fun_mk (st := slaw_row) l3 c3 k3
  have b3 := F3.binds (ps := ["deck", "most"]) fun _ _ _ _ _ _ us hl => match us, hl with | [_, _], _ => rfl
  have F4 := fun_mk (st := sis_whole) l4 c4 k4
  have b4 := F4.binds (ps := ["thing"]) fun _ _ _ _ _ _ us hl => match us, hl with | [_], _ => rfl
  have F5 := fun_mk (st := sis_row) l5 c5 k5
  have b5 := F5.binds (ps := ["thing"]) fun _ _ _ _ _ _ us hl => match us, hl with | [_], _ => rfl
  have F6 := fun_mk (st := swritten_number) l6 c6 k6
  have b6 := F6.binds (ps := ["word", "most"]) fun _ _ _ _ _ _ us hl => match us, hl with | [_, _], _ => rfl
  have F7 := fun_mk (st := sread_row) l7 c7 k7
  have b7 := F7.binds (ps := ["text"]) fun _ _ _ _ _ _ us hl => match us, hl with | [_], _ => rfl
  have F8 := fun_mk (st := slaw_bad) l8 c8 k8
  have b8 := F8.binds (ps := ["deck"]) fun _ _ _ _ _ _ us hl => match us, hl with | [_], _ => rfl
  have F9 := fun_mk (st := slaw_spoilt) l9 c9 k9
  have b9 := F9.binds (ps := ["deck", "text"]) fun _ _ _ _ _ _ us hl => match us, hl with | [_, _], _ => rfl
  have F10 := fun_mk (st := slaw_number_in) l10 c10 k10
  have b10 := F10.binds (ps := ["word"]) fun _ _ _ _ _ _ us hl => match us, hl with | [_], _ => rfl
  have F11 := fun_mk (st := slaw_row_in) l11 c11 k11
  have b11 := F11.binds (ps := ["text"]) fun _ _ _ _ _ _ us hl => match us, hl with | [_], _ => rfl
  have F12 := fun_mk (st := slaw_right) l12 c12 k12
  have b12 := F12.binds (ps := ["text"]) fun _ _ _ _ _ _ us hl => match us, hl with | [_], _ => rfl
  have F13 := fun_mk (st := slaw) l13 c13 k13
  have b13 := F13.binds (ps := ["script"]) fun _ _ _ _ _ _ us hl => match us, hl with | [_], _ => rfl
  refine ⟨PySem.W.fnOf "law" "law" (defArgs slaw) (defBody slaw) (defScope slaw) .none kV13 dc13 pm13 an13 cd13 ct13, fun s v => .of_eq rfl, fun base _ _ => ?_⟩
  have g0 : Cal l.prog w K mg base 1 "_law_take" ["deck", "many"] spTk := ⟨_, _, ok_tk F0, PySem.W.mg_of X G a0, k0, b0⟩
  have g1 : Cal l.prog w K mg base 1 "_law_deck" ["cell", "k"] spDk := ⟨_, _, ok_dk F1, PySem.W.mg_of X G a1, k1, b1⟩
  have g2 : Cal l.prog w K mg base 2 "_law_number" ["deck"] spNumK := ⟨_, _, ok_num53 F2 g0, PySem.W.mg_of X G a2, k2, b2⟩
  have g3 : Cal l.prog w K mg base 3 "_law_row" ["deck", "most"] spRowK := ⟨_, _, ok_row53 B F3 g0 g2, PySem.W.mg_of X G a3, k3, b3⟩
  have g4 : Cal l.prog w K mg base 1 "is_whole" ["thing"] (spIsWhole K) := ⟨_, _, ok_is_whole B F4, PySem.W.mg_of X G a4, k4, b4⟩
  have g5 : Cal l.prog w K mg base 2 "is_row" ["thing"] (spIsRow K) := ⟨_, _, ok_is_row B F5 g4, PySem.W.mg_of X G a5, k5, b5⟩
  have g6 : Cal l.prog w K mg base 1 "written_number" ["word", "most"] spWrit := ⟨_, _, ok_writ B F6, PySem.W.mg_of X G a6, k6, b6⟩
  have x7 : Xc.CalX l.prog w K mg base 3 "read_row" ["text"] (spReadTR C4) := ⟨_, _, ok_read_ref54 B F7 rs figs g5 g6, PySem.W.mg_of X G a7, k7, b7⟩
  have g7 : Cal l.prog w K mg base 3 "read_row" ["text"] (spReadT K) := ⟨_, _, ok_read54 B F7 figs g5 g6, PySem.W.mg_of X G a7, k7, b7⟩
  have g8 : Cal l.prog w K mg base 2 "_law_bad" ["deck"] spBadT := ⟨_, _, ok_bad54 B F8 g0, PySem.W.mg_of X G a8, k8, b8⟩
  have g9 : Cal l.prog w K mg base 3 "_law_spoilt" ["deck", "text"] spSpoilt := ⟨_, _, ok_spoilt54 B F9 g0 g8, PySem.W.mg_of X G a9, k9, b9⟩
  have g10 : Cal l.prog w K mg base 1 "_law_number_in" ["word"] spNumIn := ⟨_, _, ok_numin54 B F10 zAll, PySem.W.mg_of X G a10, k10, b10⟩
  have g11 : Cal l.prog w K mg base 2 "_law_row_in" ["text"] spRowInT := ⟨_, _, ok_rowin54 B F11 g10, PySem.W.mg_of X G a11, k11, b11⟩
  have g12 : Gd.CalG l.prog w K mg base 4 "_law_right" ["text"] spRightT := ⟨_, _, ok_right54 B F12 zVE rs g7 x7 g11, PySem.W.mg_of X G a12, k12, b12⟩
  exact ok_law54 B F13 g0 g1 g3 g9 g12
end Sp
open PySem PySem.W PyProof.Rows
set_option maxRecDepth 100000 in
set_option maxHeartbeats 0 in
theorem PySem.Challenge.cw_sumplace_k54_texts_of_no_row_holds : PySem.Challenge.rw_sumplace_k54_texts_of_no_row.Holds := by
  w_on; o_law; k_head; (case hw => w_witness2)
  k_fill
  refine Gd.walkG (l := PySem.Challenge.rw_sumplace_k54_texts_of_no_row) (n := 63) (k := 5) (x := "script") (sp := Sp.spLaw) rfl (by decide) rfl ⟨rfl, by decide, by decide⟩ (fun w h Y => PySem.W.kIn_of Y) ?F (fun _ _ a ns hl hS => ⟨a, ns, rfl, hS, hl, fun _ => rfl⟩)
  case F =>
    intro w mg fa h KX G hmg
    refine' Sp.all_mk KX G hmg ?a0 ?l0 ?c0 ?k0 ?a1 ?l1 ?c1 ?k1 ?a2 ?l2 ?c2 ?k2 ?a3 ?l3 ?c3 ?k3 ?a4 ?l4 ?c4 ?k4 ?a5 ?l5 ?c5 ?k5 ?a6 ?l6 ?c6 ?k6 ?a7 ?l7 ?c7 ?k7 ?a8 ?l8 ?c8 ?k8 ?a9 ?l9 ?c9 ?k9 ?a10 ?l10 ?c10 ?k10 ?a11 ?l11 ?c11 ?k11 ?a12 ?l12 ?c12 ?k12 ?a13 ?l13 ?c13 ?k13 ?aFI ?zall ?aC4 ?aS ?aC1 ?aC3 ?aCP ?aC2 ?xx4 ?kk4 ?bb4 ?tt4 ?bS ?hS ?tS ?ss4 ?eg4 ?ek4 ?hh4 ?ec4 ?en ?et ?em4 ?fno4 ?fk44 ?fval4 ?zve ?zlen ?zlist ?zenumerate ?zint ?zbool ?zsum ?zsorted ?zmin ?zmax ?zrange ?zisinstance ?zrepr ?ztuple ?zdict ?zabs ?zstr
    (case a0 => k_is)
    (case l0 => k_is)
    (case c0 => k_is)
    (case k0 => k_is)
    (case a1 => k_is)
    (case l1 => k_is)
    (case c1 => k_is)
    (case k1 => k_is)
    (case a2 => k_is)
    (case l2 => k_is)
    (case c2 => k_is)
    (case k2 => k_is)
    (case a3 => k_is)
    (case l3 => k_is)
    (case c3 => k_is)
    (case k3 => k_is)
    (case a4 => k_is)
    (case l4 => k_is)
    (case c4 => k_is)
    (case k4 => k_is)
    (case a5 => k_is)
    (case l5 => k_is)
    (case c5 => k_is)
    (case k5 => k_is)
    (case a6 => k_is)
    (case l6 => k_is)
    (case c6 => k_is)
    (case k6 => k_is)
    (case a7 => k_is)
    (case l7 => k_is)
    (case c7 => k_is)
    (case k7 => k_is)
    (case a8 => k_is)
    (case l8 => k_is)
    (case c8 => k_is)
    (case k8 => k_is)
    (case a9 => k_is)
    (case l9 => k_is)
    (case c9 => k_is)
    (case k9 => k_is)
    (case a10 => k_is)
    (case l10 => k_is)
    (case c10 => k_is)
    (case k10 => k_is)
    (case a11 => k_is)
    (case l11 => k_is)
    (case c11 => k_is)
    (case k11 => k_is)
    (case a12 => k_is)
    (case l12 => k_is)
    (case c12 => k_is)
    (case k12 => k_is)
    (case a13 => k_is)
    (case l13 => k_is)
    (case c13 => k_is)
    (case k13 => k_is)
    (case aFI => k_is)
    (case zall => k_is)
    (case aC4 => k_is)
    (case aS => k_is)
    (case aC1 => k_is)
    (case aC3 => k_is)
    (case aCP => k_is)
    (case aC2 => k_is)
    (case xx4 => k_exc)
    (case kk4 => k_is)
    (case bb4 => k_is)
    (case tt4 => k_is)
    (case bS => k_is)
    (case hS => k_is)
    (case tS => k_is)
    (case ss4 => k_is)
    (case eg4 => k_is)
    (case ek4 => k_is)
    (case hh4 => k_is)
    (case ec4 => k_is)
    (case en => k_is)
    (case et => k_is)
    (case em4 => k_is)
    (case fno4 => first | rfl | decide +kernel)
    (case fk44 => first | rfl | decide +kernel)
    (case fval4 => first | rfl | decide +kernel)
    (case zve => k_is)
    (case zlen => k_is)
    (case zlist => k_is)
    (case zenumerate => k_is)
    (case zint => k_is)
    (case zbool => k_is)
    (case zsum => k_is)
    (case zsorted => k_is)
    (case zmin => k_is)
    (case zmax => k_is)
    (case zrange => k_is)
    (case zisinstance => k_is)
    (case zrepr => k_is)
    (case ztuple => k_is)
    (case zdict => k_is)
    (case zabs => k_is)
    (case zstr => k_is)
