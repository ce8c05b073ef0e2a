import PyProof.Rows.All
import Wide.All
import OpenK.AllK
import Wide.FinOn
import Lean
import PyProof.EqAt
import PyProof.EqKinds
import PyProof.TupleCall
import PyProof.ZipIter
import PyProof.Draws
import PyProof.TupleIter
import PySem.Value
import PyProof.NeKinds
import PyProof.ExcClass2
import PyProof.StationsW
import OpenK.KOwn
import KE.KIsAll
import PyProof.RulesAs
import PyProof.NsDelKeeps
import PyProof.PassesOwn
import PyProof.ExcArgsOwn
import PyProof.IsiH_list
import PyProof.EnumMake
import PyProof.EnumFor
import PyProof.WalksEnum
import PyProof.Rows.EnumRows
import PyProof.SumWalk
import PyProof.StrCalls
import PyProof.Rows.StrJoin2
import PyProof.WalkInts
import KE.KDictOf
import KE.KEqDict
import PyProof.EqLayable
import PyProof.P3Eq
import PyProof.MeetsIn
import PyProof.StrCalls6
import PyProof.StrLaws
import PyProof.StrLawsIn
import PyProof.StrLawsChain
import PyProof.MeetsStr2
import PyProof.StrOps2
import PyProof.CallStr
import KE.KIntText
import KE.KRevIter
import PyProof.Rows.StrInSeq3
import PyProof.Rows.SeqMore2
import KE.KNestM
import PySem.Challenge.RW_keeper_k54_texts_refused
set_option Elab.async false
set_option linter.all false
set_option maxRecDepth 100000
set_option bootstrap.genMatcherCode false
set_option genSizeOf false
set_option genSizeOfSpec false
set_option maxHeartbeats 8000000
open PySem renaming wpAny_bind->aw,wpAny_pure->bf,wpAny_mono->fk
open List renaming getElem?_eq_getElem->cN,length_cons->bD,mem_cons_self->b5,length_append->cx,mem_cons_of_mem->cU,length_map->bT,size_toArray->dt,length_drop->dJ,length_nil->dC,length_take->dU,mem_append_right->gP,getElem?_map->fU,append_nil->eY,mem_append_left->kP,take_of_length_le->nM,lookup_cons->jg,map_cons->gQ,nil_append->jh,filterMap_cons->nV,mem_of_mem_drop->ud,mem_of_mem_take->uB,not_mem_nil->kh,getElem?_append_left->AL,drop_eq_getElem_cons->AU,drop_eq_nil_of_le->xu,flatMap_cons->nX
open PySem.Heap renaming get?_push_of_some->cW,lt_size->bZ,get?_push_size->gU,get?_update_other->jj
open Bool renaming and_eq_true->bW,false_ne_true->fw
open Nat renaming le_refl->bB,le_trans->dI,lt_of_lt_of_le->iu,ne_of_lt->eH,zero_le->fV
noncomputable section
section
namespace L2
open PySem PySem.Spec PyProof.Rows
theorem dF{n:Nat}(h:Nat.ble n 16777216=true):n<=sizeLine:=dI (Nat.le_of_ble_eq_true h) (by decide)
def HB(base:Heap)(A:Around):Prop:=A.handled=none\/∃a oe vs,A.handled=some (.ref a)/\base.get? a=some oe/\oe.data= .fields vs/\vs[2]?=some .none
def HBp(base:Heap)(pn:List (Addr×Obj))(A:Around):Prop:=A.handled=none\/∃a oe vs,A.handled=some (.ref a)/\(base.get? a=some oe\/(a,oe)∈pn)/\oe.data= .fields vs/\vs[2]?=some .none
theorem HB.toP{base:Heap}{pn:List (Addr×Obj)}{A:Around}(h:HB base A):HBp base pn A:=by
 rcases h with h|⟨a,oe,vs,b,c,d⟩;·exact .inl h
 ·exact .inr ⟨a,oe,vs,b, .inl c,d⟩
theorem z5:entryFor table "proto.unchain"=some Builtin.«proto.unchain»:=entryFor_of_tree (by kernel_rfl)
section
variable{prog:Program}{w:World}{A:Around}{E:Value->Shared->Prop}{s:Shared}{base:Heap}
theorem HB.mono{h h':Heap}(hb:HB h A)(e:∀a o,A.handled=some (.ref a)->h.get? a=some o->h'.get? a=some o):HB h' A:=by
 rcases hb with hb|⟨a,oe,vs,b,c,d⟩;·exact .inl hb
 ·exact .inr ⟨a,oe,vs,b,e a oe b c,d⟩
theorem z9{n a:Addr}{oe:Obj}{vs:Array Value}{Q:Value->Shared->Prop}(b:s.heap.get? a=some oe)(hd:oe.data= .fields vs)(h2:vs[2]?=some .none)(h:Q .none s):wpAny (model prog w) A (runValue (.builtin "proto.unchain" ⟨[.ref n, .ref a, .ref a, .bool false],[]⟩)) Q E s:=by refine wpAny_runValue (codeAny_builtin z5 ?_);show wpAny _ _ (field (.ref a) 2>>=_) _ _ s;refine aw (wpAny_field b hd h2 ?_);rw[if_pos (show(Value.none==Value.none)=true by rfl)];exact bf h
theorem fK{f:Type}{Q:f->Shared->Prop}(hb:HB s.heap A)(d:∀h' e,(∀b o,s.heap.get? b=some o->h'.get? b=some o)->(∃o,h'.get? e=some o/\o.cls= .type "StopIteration")->E (.ref e) {s with heap:=h'}):wpAny (model prog w) A (newExc (.type "StopIteration") []>>=λe=>(raiseNew e:Sem f)) Q E s:=by
 refine aw ?_;simp only[newExc,newTuple];refine aw (wpAny_newObj_type ?_ (by size_fits));refine aw (m:=firstArgMember _ _) (wpAny_of_eq (a:=Value.none) (by first|rfl|(simp only[firstArgMember];rfl)) ?_);refine wpAny_newObj_type ?_ (by size_fits);simp only[raiseNew];refine aw (wpAny_handled ?_);rcases hb with hb|⟨a,oe,vs,hb,g,h,i⟩;·rw[hb];refine aw (bf (wpAny_throw (d _ _ (λb o e=>cW _ (cW _ e)) ⟨_,gU _ rfl,rfl⟩)))
 ·rw[hb];have c:=g;have lt:=bZ c;have ne:a≠(s.heap.push {cls:= .type "tuple",data:= .seq #[]}).objs.size:=by rw[Heap.size_push];exact eH (Nat.lt_succ_of_lt lt)
  dsimp only;rw[if_pos (by simpa using ne)];refine aw (wpAny_holding (z9 (cW _ (cW _ c)) h i ?_));refine aw ?_;show wpAny (model prog w) A (setField (.ref _) 2 (.ref a)) _ _ _;refine wpAny_setField (gU _ rfl) rfl (by simp;lia) (wpAny_throw (d _ _ (λb o e=>?_) ⟨_,Heap.get?_update_self _ (gU _ rfl) (Obj.isFreed_of_fields (Obj.data_mapFields rfl _)),Obj.cls_mapFields _ _⟩));rw[jj _ _ ?_];·exact cW _ (cW _ e)
  ·have :=bZ e;intro z;rw[<-z,Heap.size_push]at this;exact Nat.not_succ_lt_self this
theorem i0{Q:Bool->Shared->Prop}{h':Heap}{e:Addr}(a:∃o,h'.get? e=some o/\o.cls= .type "StopIteration")(h:Q true {s with heap:=h'}):wpAny (model prog w) A (isInstance (.ref e) (.type "StopIteration")) Q E {s with heap:=h'}:=by obtain⟨o,c,hc⟩:=a;exact wpAny_isInstance (T:="StopIteration") (b:=true) ⟨o,c,hc⟩ isSubtype_stop h
theorem HB.upd{it:Addr}{f:Obj->Obj}(hb:HB s.heap A)(d:∀a,A.handled=some (.ref a)->a≠it):HB (s.heap.update it f) A:=hb.mono λa o b c=>(jj _ _ (Ne.symm (d a b))).trans c
theorem rj{it:Addr}{f:Obj->Obj}{h':Heap}(k:∀b o,(s.heap.update it f).get? b=some o->h'.get? b=some o):Heap.ExtBut it s.heap h':=λb o hb e=>k b o ((jj _ _ (Ne.symm hb)).trans e)
theorem jw{it l:Addr}{i:Nat}{items:Array Value}{Q:Option Value->Shared->Prop}(hb:HB s.heap A)(j:∀a,A.handled=some (.ref a)->a≠it)(b:s.heap.IsListIter it l i)(hl:s.heap.IsList l items)(h:items[i]?=none)(d:∀h',Heap.ExtBut it s.heap h'->Q none {s with heap:=h'}):wpAny (model prog w) A (pyNext (.ref it)) Q E s:=by obtain⟨o,c,hc,hd⟩:=id b;obtain⟨n,g,_,m,LJ⟩:=hl;unfold pyNext;refine aw (wpAny_attempt (wpAny_callSpecial?_slot (name:=Str.ofString "__next__") b.typeIs slot_listiter_next (wpAny_call_entry slot_listiter_next b.typeIs entry_listiter_next ?_ (args_listiter_next _))));show wpAny (model prog w) _ (field (.ref it) 0>>=_) _ _ s;refine aw (wpAny_field c hd (x:= .ref l) rfl ?_);show wpAny (model prog w) _ (if(Value.ref l==Value.none)=true then _ else _) _ _ s;rw[if_neg (show¬(Value.ref l==Value.none)=true from fw)];show wpAny (model prog w) _ (field (.ref it) 1>>=_) _ _ s;refine aw (wpAny_field c hd (x:= .int i 0) rfl ?_);show wpAny (model prog w) _ (seqItems? (.ref l)>>=_) _ _ s;refine aw (wpAny_seqItems g LJ ?_);simp only[Int.toNat_natCast,h];refine aw (wpAny_rule (aw (wpAny_setField c hd (by simp) ?_)));exact fK (A:=A.in1) (hb.upd j) λh' e k f=>aw (i0 f (bf (d h' (rj k))))
theorem next_tuple_end{it l:Addr}{i:Nat}{items:Array Value}{Q:Option Value->Shared->Prop}(hb:HB s.heap A)(j:∀a,A.handled=some (.ref a)->a≠it)(b:s.heap.IsTupleIter it l i)(hl:s.heap.IsTuple l items)(h:items[i]?=none)(d:∀h',Heap.ExtBut it s.heap h'->Q none {s with heap:=h'}):wpAny (model prog w) A (pyNext (.ref it)) Q E s:=by obtain⟨o,c,hc,hd⟩:=id b;obtain⟨n,g,_,m,LJ⟩:=hl;unfold pyNext;refine aw (wpAny_attempt (wpAny_callSpecial?_slot (name:=Str.ofString "__next__") b.typeIs F.slot_tuple_iterator_next (wpAny_call_entry F.slot_tuple_iterator_next b.typeIs F.entry_tuple_iterator_next ?_ (F.args_tuple_iterator_next_1 _))));show wpAny (model prog w) _ (field (.ref it) 0>>=_) _ _ s;refine aw (wpAny_field c hd (x:= .ref l) rfl ?_);show wpAny (model prog w) _ (if(Value.ref l==Value.none)=true then _ else _) _ _ s;rw[if_neg (show¬(Value.ref l==Value.none)=true from fw)];show wpAny (model prog w) _ (field (.ref it) 1>>=_) _ _ s;refine aw (wpAny_field c hd (x:= .int i 0) rfl ?_);show wpAny (model prog w) _ (seqItems? (.ref l)>>=_) _ _ s;refine aw (wpAny_seqItems g LJ ?_);simp only[Int.toNat_natCast,h];refine aw (wpAny_rule (aw (wpAny_setField c hd (by simp) ?_)));exact fK (A:=A.in1) (hb.upd j) λh' e k f=>aw (i0 f (bf (d h' (rj k))))
theorem sU{it:Addr}{x left step:Int}{Q:Option Value->Shared->Prop}(hb:HB s.heap A)(a:IsRangeIter s.heap it x left step)(hleft:left<=0)(f:∀h',Heap.ExtBut it s.heap h'->Q none {s with heap:=h'}):wpAny (model prog w) A (pyNext (.ref it)) Q E s:=by have c:s.TypeIs (.ref it) "range_iterator":=⟨_,a,rfl⟩;unfold pyNext;refine aw (wpAny_attempt (wpAny_callSpecial?_slot (name:=Str.ofString "__next__") c F.slot_range_iterator_next (wpAny_call_entry F.slot_range_iterator_next c F.entry_range_iterator_next ?_ (F.args_range_iterator_next_1 _))));show wpAny (model prog w) _ (field (.ref it) 0>>=_) _ _ s;refine aw (wpAny_field a rfl (x:=rawInt x) rfl ?_);show wpAny (model prog w) _ (field (.ref it) 1>>=_) _ _ s;refine aw (wpAny_field a rfl (x:=rawInt left) rfl ?_);show wpAny (model prog w) _ (field (.ref it) 2>>=_) _ _ s;refine aw (wpAny_field a rfl (x:=rawInt step) rfl ?_);show wpAny (model prog w) _ (if left<=0 then _ else _) _ _ s;rw[if_pos hleft];refine aw (wpAny_rule ?_);refine aw ?_;exact fK (A:=A.in1) hb λh' e k g=>aw (i0 g (bf (f h' λb o _ d=>k b o d)))
theorem tK{it:Addr}{x:Str}{t:Tok}{i:Nat}{Q:Option Value->Shared->Prop}(hb:HB s.heap A)(h:∀a,A.handled=some (.ref a)->a≠it)(b:s.heap.IsStrIter it "str_ascii_iterator" x t i)(g:x.cps[i]?=none)(d:∀h',Heap.ExtBut it s.heap h'->Q none {s with heap:=h'}):wpAny (model prog w) A (pyNext (.ref it)) Q E s:=by obtain⟨o,c,hc,hd⟩:=id b;unfold pyNext;refine aw (wpAny_attempt (wpAny_callSpecial?_slot (name:=Str.ofString "__next__") b.typeIs F.slot_str_ascii_iterator_next (wpAny_call_entry F.slot_str_ascii_iterator_next b.typeIs F.entry_str_ascii_iterator_next ?_ (F.args_str_ascii_iterator_next_1 _))));show wpAny (model prog w) _ (field (.ref it) 0>>=_) _ _ s;refine aw (wpAny_field c hd (x:= .str x t) rfl ?_);show wpAny (model prog w) _ (field (.ref it) 1>>=_) _ _ s;refine aw (wpAny_field c hd (x:= .int i 0) rfl ?_);simp only[Int.toNat_natCast,g];refine aw (wpAny_rule (aw (wpAny_setField c hd (by simp) (aw (wpAny_letGo ?_)))));exact fK (A:=A.in1) (hb.upd h) λh' e k f=>aw (i0 f (bf (d h' (rj k))))
theorem va{it:Addr}{x:Str}{t:Tok}{i:Nat}{Q:Option Value->Shared->Prop}(hb:HB s.heap A)(h:∀a,A.handled=some (.ref a)->a≠it)(b:s.heap.IsStrIter it "str_iterator" x t i)(g:x.cps[i]?=none)(d:∀h',Heap.ExtBut it s.heap h'->Q none {s with heap:=h'}):wpAny (model prog w) A (pyNext (.ref it)) Q E s:=by obtain⟨o,c,hc,hd⟩:=id b;unfold pyNext;refine aw (wpAny_attempt (wpAny_callSpecial?_slot (name:=Str.ofString "__next__") b.typeIs F.slot_str_iterator_next (wpAny_call_entry F.slot_str_iterator_next b.typeIs F.entry_str_iterator_next ?_ (F.args_str_iterator_next_1 _))));show wpAny (model prog w) _ (field (.ref it) 0>>=_) _ _ s;refine aw (wpAny_field c hd (x:= .str x t) rfl ?_);show wpAny (model prog w) _ (field (.ref it) 1>>=_) _ _ s;refine aw (wpAny_field c hd (x:= .int i 0) rfl ?_);simp only[Int.toNat_natCast,g];refine aw (wpAny_rule (aw (wpAny_setField c hd (by simp) (aw (wpAny_letGo ?_)))));exact fK (A:=A.in1) (hb.upd h) λh' e k f=>aw (i0 f (bf (d h' (rj k))))
end
theorem BD{prog:Program}{w:World}{A:Around}{s:Shared}{Q:Option Value->Shared->Prop}{E:Value->Shared->Prop}{I:Addr}{a c:Int}{n i:Nat}(hi:i<n)(st:IsRangeIter s.heap I (a+(i:Nat)*c) ((n:Int)-(i:Nat)) c)(d:∀v h' tk,(∃t,v= .int (a+i*c) t)->IsRangeIter h' I (a+((i+1:Nat):Int)*c) ((n:Int)-((i+1:Nat):Int)) c->(∀b o,b∉[I]->s.heap.get? b=some o->h'.get? b=some o)->Q (some v) {s with heap:=h',toks:=tk}):wpAny (model prog w) A (pyNext (.ref I)) Q E s:=by refine wpAny_pyNext_range_item st (by lia) λh' f g=>d _ h' _ ⟨_,rfl⟩ ?_ λb o hb e=>g.extBut b o (λh=>hb (by simp[h])) e;rw[show a+((i+1:Nat):Int)*c=a+(i:Int)*c+c by push_cast;rw[Int.add_mul,Int.one_mul,Int.add_assoc],show(n:Int)-((i+1:Nat):Int)=(n:Int)-(i:Int)-1 by push_cast;lia];exact f
noncomputable def FJ(A:Around):List Addr:=match A.handled with|some (.ref a)=>[a]|_=>[]
theorem Kf{A:Around}{d:Addr}(h:d∈FJ A):A.handled=some (.ref d):=by
 unfold FJ at h;split at h;·rename_i a e;rw[List.mem_singleton.mp h];exact e
 ·cases h
theorem HB.frame{A:Around}{h h':Heap}(hb:HB h A)(k:∀b∈FJ A,∀o,h.get? b=some o->h'.get? b=some o):HB h' A:=hb.mono λa o c d=>k a (by unfold FJ;rw[c];simp) o d
theorem uJ{prog:Program}{w:World}{A:Around}(I c:Addr)(p:c≠I)(items:Array Value)(j:∀a,A.handled=some (.ref a)->a≠I):Walks prog w A I (I::c::FJ A) [I] items.size (λi v=>items[i]?=some v) (λi h=>h.IsListIter I c i/\h.IsList c items/\HB h A)where
 sub:=λb hb=>by simp at hb;simp[hb]
 frame:=λ_ _ _ st f=>⟨st.1.at λo e=>f I (by simp) o e,st.2.1.at λo e=>f c (by simp) o e,st.2.2.frame λb hb=>f b (by simp[hb])⟩;item:=λi s Q E hi st d=>by refine wpAny_pyNext_list_item st.1 st.2.1 (x:=items[i]) (by simp[hi]) λh' n g=>?_;exact d _ h' s.toks (by simp[hi]) ⟨n,st.2.1.extBut g.extBut p,st.2.2.mono λa o k l=>g.extBut a o (j a k) l⟩ λb o hb e=>g.extBut b o (λh=>hb (by simp[h])) e
 done:=λs Q E st d=>jw st.2.2 j st.1 st.2.1 (by simp) λh' m=>d h' s.toks λb o hb e=>m b o (λh=>hb (by simp[h])) e;self:=λ_ _ _ _ st d=>wpAny_pyIter_listiter st.1 d
noncomputable abbrev Key:=Sum Int Str
noncomputable def NJ:Key->Value->Bool| .inl k,v=>Value.isInt k v| .inr x,v=>Value.isStrOf x v
noncomputable def Z4(w:World):Key->Int| .inl k=>hashInt k| .inr x=>hashStr w x
theorem cE:∀{k:Key}{v:Value},NJ k v=true->(∃i t,k=Sum.inl i/\v=Value.int i t)\/(∃x t,k=Sum.inr x/\v=Value.str x t)| .inl i,v,h=>by obtain⟨t,e⟩:=Value.isInt_shape (k:=i) (v:=v) h;exact .inl ⟨i,t,rfl,e⟩| .inr x,v,h=>by obtain⟨t,e⟩:=Value.isStrOf_shape (x:=x) (v:=v) h;exact .inr ⟨x,t,rfl,e⟩
theorem Qw(a b:Int):decide ((Sum.inl a:Key)=Sum.inl b)=(a==b):=by
 by_cases e:a=b;·subst e;simp
 ·have h:¬(Sum.inl a:Key)=Sum.inl b:=λq=>e (Sum.inl.inj q);rw[decide_eq_false h];exact(beq_eq_false_iff_ne.mpr e).symm
theorem Se(a b:Str):decide ((Sum.inr a:Key)=Sum.inr b)=decide (a=b):=by
 by_cases e:a=b;·subst e;simp
 ·have h:¬(Sum.inr a:Key)=Sum.inr b:=λq=>e (Sum.inr.inj q);rw[decide_eq_false h,decide_eq_false e]
theorem Rv(a:Int)(b:Str):decide ((Sum.inl a:Key)=Sum.inr b)=false:=decide_eq_false (λq=>nomatch q)
theorem SH(a:Str)(b:Int):decide ((Sum.inr a:Key)=Sum.inl b)=false:=decide_eq_false (λq=>nomatch q)
noncomputable def Dw(prog:Program)(w:World):PySem.KeyKind prog w Key where
 is:=NJ;hash:=Z4 w;inj:=λv a b ha hb=>by
  rcases cE ha with⟨i,t,rfl,rfl⟩|⟨x,t,rfl,rfl⟩
  ·rcases cE hb with⟨j,u,rfl,e⟩|⟨y,u,rfl,e⟩;·injection e with c _;rw[c]
   ·exact nomatch e
  ·rcases cE hb with⟨j,u,rfl,e⟩|⟨y,u,rfl,e⟩;·exact nomatch e
   ·injection e with c _;rw[c]
 byValue:=λk v h=>by rcases cE h with⟨i,t,rfl,rfl⟩|⟨x,t,rfl,rfl⟩<;>rfl
 pyHash:=λd h=>by
  rcases cE d with⟨i,t,rfl,rfl⟩|⟨x,t,rfl,rfl⟩;·exact wpAny_pyHash_int h
  ·exact wpAny_pyHash_str h
 eqBool:=λf d h=>by
  rcases cE f with⟨i,t,rfl,rfl⟩|⟨x,t,rfl,rfl⟩
  ·rcases cE d with⟨j,u,rfl,rfl⟩|⟨y,u,rfl,rfl⟩;·rw[Qw]at h;exact wpAny_eqBool_int h
   ·rw[Rv]at h;exact SeqAt.EqAt.int_str i t y u _ _ _ _ h
  ·rcases cE d with⟨j,u,rfl,rfl⟩|⟨y,u,rfl,rfl⟩;·rw[SH]at h;exact SeqAt.EqAt.str_int x t j u _ _ _ _ h
   ·rw[Se]at h;exact wpAny_eqBool_str h
 «strs»:=λk x t v h=>by
  rcases cE h with⟨i,u,rfl,e⟩|⟨y,u,rfl,e⟩;·exact nomatch e
  ·injection e with c _;subst c;cases v<;>rfl
inductive V where|bU|bl(b:Bool)|int(i:Int)|str(x:Str)|GC(b:Array UInt8)|Qe(b:UInt64)|ref(a:Addr)|ty(n:String)deriving DecidableEq
noncomputable def RelV:V->Value->Prop| .bU,u=>u=Value.none| .bl b,u=>u=Value.bool b| .int i,u=>∃t,u=Value.int i t| .str x,u=>∃t,u=Value.str x t| .GC b,u=>∃t,u=Value.bytes b t| .Qe b,u=>∃t,u=Value.float b t| .ref a,u=>u=Value.ref a| .ty n,u=>u=Value.type n
noncomputable abbrev Vals:List V->List Value->Prop:=Paired RelV
theorem Vals.length{xs:List V}{us:List Value}(r:Vals xs us):xs.length=us.length:=Paired.length r
theorem Vals.get:∀{xs:List V}{us:List Value}{i:Nat}{x:V},Vals xs us->xs[i]?=some x->∃u,us[i]?=some u/\RelV x u|_,_,_,_, .nil,e=>by simp at e|_,_,0,_, .cons r _,e=>by simp at e;subst e;exact⟨_,rfl,r⟩|_,_,i+1,x, .cons _ t,e=>by obtain⟨u,h1,h2⟩:=Vals.get (i:=i) (x:=x) t (by simpa using e);exact⟨u,by simpa using h1,h2⟩
theorem Vals.set{x:V}{u:Value}(r:RelV x u):∀{xs:List V}{us:List Value}(i:Nat),Vals xs us->Vals (xs.set i x) (us.set i u)|_,_,_, .nil=> .nil|_,_,0, .cons _ t=> .cons r t|_,_,i+1, .cons q t=> .cons q (Vals.set r i t)
theorem Vals.append:∀{xs ys:List V}{us ws:List Value},Vals xs us->Vals ys ws->Vals (xs++ys) (us++ws)|_,_,_,_, .nil,s=>s|_,_,_,_, .cons r t,s=> .cons r (Vals.append t s)
theorem Vals.take:∀{xs:List V}{us:List Value}(n:Nat),Vals xs us->Vals (xs.take n) (us.take n)|_,_,0,_=> .nil|_,_,_+1, .nil=> .nil|_,_,n+1, .cons r t=> .cons r (Vals.take n t)
theorem Vals.drop:∀{xs:List V}{us:List Value}(n:Nat),Vals xs us->Vals (xs.drop n) (us.drop n)|_,_,0,r=>r|_,_,_+1, .nil=> .nil|_,_,n+1, .cons _ t=>Vals.drop n t
noncomputable def vz:Option V->Option Value->Prop|some v,some u=>RelV v u|none,none=>True|_,_=>False
noncomputable def KV{a:Type}:List (a×V)->List (a×Value)->Prop:=Paired λ(p:a×V)(q:a×Value)=>p.1=q.1/\RelV p.2 q.2
noncomputable def kV:Key->V| .inl i=> .int i| .inr x=> .str x
inductive Zl where|tab(q:Str)(ln cl:Value)|code(q:Str)
inductive HO where/--a list -/|lst(xs:List V)/--a tuple (never changes) -/|tup(xs:List V)/--a dict whose keys are ints and texts; one whose keys are tuples of ints and texts (the empty one is both) -/|dK(ip:List (Key×V))|dT(ip:List (List Key×V))/--a set of ints: its members, its size -/|set(S:Int->Bool)(n:Nat)/--an instance of the class at C, its dict at dx, its attributes -/|ins(C dx:Addr)(fs:List (Str×V))/--the dict of the instance at x -/|own(x:Addr)/--the dict of an exception -/|xd(fs:List (Str×V))/--a bound method, f of x -/|met(f x:Addr)/--a range object lo, lo + 1, .. below hi -/|YG(lo hi:Int)/--a thing that is known to the object (the script; a dict while a loop walks it): read, never written while it is so -/|B3(o:Obj)(u:HO)/--a code object's table -/|GY(ps:Zl)/--any other thing, by what is true of its one object (a def of one's own: SetO a S n := HO.ext fun h => ..) -/|ext(φ:Heap->Prop)
noncomputable abbrev Hp:=Addr->Option HO
noncomputable def upd(H:Hp)(a:Addr)(o:HO):Hp:=λb=>if b=a then some o else H b
theorem ag{H:Hp}{a:Addr}{o:HO}:upd H a o a=some o:=by unfold upd;rw[if_pos rfl]
theorem bc{H:Hp}{a b:Addr}{o:HO}(h:b≠a):upd H a o b=H b:=by unfold upd;rw[if_neg h]
theorem Fg{H:Hp}{a:Addr}{o u:HO}:upd (upd H a o) a u=upd H a u:=by funext b;unfold upd;split<;>rfl
theorem Wx{H:Hp}{a b:Addr}{o u:HO}(h:H a=some o)(h':H b=some u)(d:o≠u):a≠b:=by intro e;subst e;rw[h]at h';exact d (Option.some.inj h')
theorem aI{H:Hp}{a b:Addr}{o:HO}(h:H a=some o)(h':H b=none):a≠b:=by intro e;subst e;rw[h]at h';cases h'
section
variable(P:Program)(w:World)
noncomputable def dR(H:Hp)(h:Heap)(a:Addr):HO->Prop| .lst xs=>xs.length<=sizeLine/\∃(its:List Value)(n:Nat),Vals xs its/\h.get? a=some {cls:= .type "list",data:= .seq its.toArray n}| .tup xs=>xs.length<=sizeLine/\∃its:List Value,Vals xs its/\IsTup h a its.toArray| .dK ip=>ip.length<=sizeLine/\(a==sysModules)=false/\∃vs,KV ip vs/\h.DictOf (Dw P w) a vs| .dT ip=>ip.length<=sizeLine/\(a==sysModules)=false/\∃xs:List (List Key×Addr×Value),Paired (λ(p:List Key×V)(q:List Key×Addr×Value)=>p.1=q.1/\H q.2.1=some (.tup (p.1.map kV))/\RelV p.2 q.2.2) ip xs/\∃o es ep,h.get? a=some o/\o.ExactDict/\o.data= .dict es ep/\es.toList=xs.map (entryOfKey (tupleKind (Dw P w)))/\(xs.map (·.1)).Nodup| .set S n=>h.SetOf (intKind P w) a S n| .ins C dx fs=>H dx=some (.own a)/\fs.length<=1000/\dx≠a/\h.get? a=some (PySem.W.instObj C dx)/\∃mA,h.Ns1 dx mA/\(∀f,vz (fs.lookup f) (mA f))/\PySem.Within mA (fs.map (·.1))| .own _=>∃o,h.get? a=some o| .xd fs=>∃mA,h.Ns1 a mA/\∀f,vz (fs.lookup f) (mA f)| .YG lo hi=>∃t u v,h.get? a=some {cls:= .type "range",data:= .fields #[.int lo t, .int hi u, .int 1 v]}| .B3 o u=>h.get? a=some o/\dR H h a u| .GY (.tab q ln cl)=>h.get? a=some {cls:= .none,data:= .fields #[]}\/∃c,h.get? a=some {cls:= .none,data:= .fields #[ln,cl, .ref c]}/\H c=some (.GY (.code q))| .GY (.code q)=>h.CodeRec (.ref a) q| .met f x=>h.get? a=some (PySem.W.methodObj (.ref f) (.ref x))| .ext φ=>φ h/\(∃o,h.get? a=some o)/\∀h1 h2:Heap,φ h1->(∀o,h1.get? a=some o->h2.get? a=some o)->φ h2
def j3(H:Hp)(h:Heap):Prop:=∀a o,H a=some o->dR P w H h a o
end
section
variable{P:Program}{w:World}{H H':Hp}{h h':Heap}{a:Addr}{o:HO}
theorem dR.lt(x:dR P w H h a o):a<h.objs.size:=by
 cases o with
  |lst xs=>obtain⟨_,_,_,_,e⟩:=x;exact bZ e
  |tup xs=>obtain⟨_,_,_,p⟩:=x;exact p.lt
  |dK ip=>obtain⟨_,_,_,_,o,_,_,e,_⟩:=x;exact bZ e
  |dT ip=>obtain⟨_,_,_,_,o,_,_,e,_⟩:=x;exact bZ e
  |set S n=>obtain⟨o,_,_,_,e,_⟩:=x;exact bZ e
  |ins C dx fs=>obtain⟨_,_,_,e,_⟩:=x;exact bZ e
  |own y=>obtain⟨_,e⟩:=x;exact bZ e
  |xd fs=>obtain⟨_,⟨_,_,_,e,_⟩,_⟩:=x;exact bZ e
  |YG lo hi=>obtain⟨_,_,_,e⟩:=x;exact bZ e
  |B3 ob u=>obtain⟨e,_⟩:=x;exact bZ e
  |GY ps=>cases ps with|tab q ln cl=>rcases x with e|⟨c,e,_⟩<;>exact bZ e|code q=>obtain⟨c,o,vs,t,b,d,_⟩:=x;cases b;exact bZ d
  |met f y=>exact bZ (show h.get? a=some _ from x)
  |ext φ=>obtain⟨_,⟨_,e⟩,_⟩:=x;exact bZ e
theorem Paired.U_{d e:Type}{F G:d->e->Prop}:∀{c:List d}{l₂:List e},Paired F c l₂->(∀a b,F a b->G a b)->Paired G c l₂|_,_, .nil,_=> .nil|_,_, .cons r t,f=> .cons (f _ _ r) (Paired.U_ t f)
noncomputable def Fix:HO->Prop| .tup _=>True| .GY _=>True|_=>False
noncomputable abbrev Xd:={u:HO//Fix u}
theorem dR.AK(x:dR P w H h a o)(k:∀b u,(b=a\/H b=some (.own a))->h.get? b=some u->h'.get? b=some u)(l:∀b,H b=some (.own a)->H' b=some (.own a))(ht:∀(b:Addr)(u:Xd),H b=some u.1->H' b=some u.1):dR P w H' h' a o:=by
 induction o with
  |lst xs=>obtain⟨z,its,n,r,e⟩:=x;exact⟨z,its,n,r,k _ _ (.inl rfl) e⟩
  |tup xs=>obtain⟨z,its,r,ob,e,c⟩:=x;exact⟨z,its,r,ob,k _ _ (.inl rfl) e,c⟩
  |dK ip=>obtain⟨z,y,vs,r,ob,es,ep,e,c⟩:=x;exact⟨z,y,vs,r,ob,es,ep,k _ _ (.inl rfl) e,c⟩
  |dT ip=>obtain⟨z,y,xs,r,ob,es,ep,e,c⟩:=x;exact⟨z,y,xs,Paired.U_ r λp q z=>⟨z.1,ht _ ⟨.tup _,trivial⟩ z.2.1,z.2.2⟩,ob,es,ep,k _ _ (.inl rfl) e,c⟩
  |set S n=>obtain⟨ob,es,ep,t,e,c⟩:=x;exact⟨ob,es,ep,t,k _ _ (.inl rfl) e,c⟩
  |ins C dx fs=>obtain⟨d,z,ne,e,mA,⟨od,es,ep,g,c⟩,r⟩:=x;exact⟨l _ d,z,ne,k _ _ (.inl rfl) e,mA,⟨od,es,ep,k _ _ (.inr d) g,c⟩,r⟩
  |own y=>obtain⟨ob,e⟩:=x;exact⟨ob,k _ _ (.inl rfl) e⟩
  |xd fs=>obtain⟨mA,⟨od,es,ep,e,c⟩,r⟩:=x;exact⟨mA,⟨od,es,ep,k _ _ (.inl rfl) e,c⟩,r⟩
  |YG lo hi=>obtain⟨t,u,v,e⟩:=x;exact⟨t,u,v,k _ _ (.inl rfl) e⟩
  |B3 ob u m=>obtain⟨e,q⟩:=x;exact⟨k _ _ (.inl rfl) e,m q⟩
  |GY ps=>
   cases ps with
    |tab q ln cl=>
     rcases x with e|⟨c,e,r⟩;·exact .inl (k a _ (.inl rfl) e)
     ·exact .inr ⟨c,k a _ (.inl rfl) e,ht c ⟨.GY (.code q),trivial⟩ r⟩
    |code q=>obtain⟨c,o,vs,t,i,g,j⟩:=x;cases i;exact⟨_,o,vs,t,rfl,k a _ (.inl rfl) g,j⟩
  |met f y=>have e:h.get? a=some (PySem.W.methodObj (.ref f) (.ref y)):=x;show h'.get? a=some (PySem.W.methodObj (.ref f) (.ref y));exact k a _ (.inl rfl) e
  |ext φ=>obtain⟨p,⟨o,e⟩,st⟩:=x;exact⟨st _ _ p λo q=>k _ _ (.inl rfl) q,⟨o,k _ _ (.inl rfl) e⟩,st⟩
theorem j3.lt(x:j3 P w H h)(e:H a=some o):a<h.objs.size:=(x a o e).lt
theorem j3.fresh(x:j3 P w H h)(e:h.objs.size<=a):H a=none:=by cases q:H a with|none=>rfl|some u=>exact absurd (iu (x.lt q) e) (Nat.lt_irrefl _)
theorem j3.kept(x:j3 P w H h)(k:∀b u,h.get? b=some u->h'.get? b=some u):j3 P w H h':=λa o e=>(x a o e).AK (λb u _ q=>k b u q) (λ_ q=>q) λ_ _ q=>q
theorem j3.laid(x:j3 P w H h)(k:∀b u,h.get? b=some u->h'.get? b=some u)(d:h.objs.size<=a)(new:dR P w (upd H a o) h' a o):j3 P w (upd H a o) h':=λb u e=>by
 have hn:=x.fresh d;by_cases hb:b=a;·subst hb;rw[ag]at e;cases e;exact new
 ·rw[bc hb]at e;exact(x b u e).AK (λc v _ q=>k c v q) (λc q=>by rw[bc (aI q hn)];exact q) λc xs q=>by rw[bc (aI q hn)];exact q
end
def Rd(H:Hp)(a:Addr)(u:HO):Prop:=H a=some u\/∃o,H a=some (.B3 o u)
theorem Rd.ok{P:Program}{w:World}{H:Hp}{h:Heap}{a:Addr}{u:HO}(r:Rd H a u)(x:j3 P w H h):dR P w H h a u:=by
 rcases r with r|⟨o,r⟩;·exact x a u r
 ·obtain⟨_,q⟩:=x a _ r;exact q
noncomputable def Y4:Option HO->Prop|some (.lst _)=>True|some (.dK _)=>True|some (.dT _)=>True|some (.set _ _)=>True|some (.ins _ _ _)=>True|some (.ext _)=>True|_=>False
section
variable{P:Program}{w:World}{H:Hp}{h h':Heap}{x e:Addr}{o':HO}
theorem j3.write(ok:j3 P w H h)(d:Y4 (H x))(g:e=x\/H e=some (.own x))(k:∀b u,b≠e->h.get? b=some u->h'.get? b=some u)(l:∃u,h'.get? e=some u)(new:dR P w (upd H x o') h' x o'):j3 P w (upd H x o') h':=λb u q=>by
 have i:∀c y,H c=some (.own y)->c≠x:=λc y r z=>by subst z;rw[r]at d;exact d
 have n:∀(c:Addr)(u:Xd),H c=some u.1->c≠x:=λc⟨u,f⟩r z=>by subst z;rw[show H c=some u from r]at d;cases u<;>first|exact d|exact f
 by_cases hb:b=x;·subst hb;rw[ag]at q;cases q;exact new
 ·rw[bc hb]at q;by_cases a:b=e
  ·have j:H b=some (.own x):=by
    rcases g with z|z;·exact absurd (a.trans z) hb
    ·rw[a];exact z
   rw[q]at j;cases j;obtain⟨v,m⟩:=l;exact⟨v,by rw[a];exact m⟩
  ·refine(ok b u q).AK (λc v hc r=>k c v ?_ r) (λc r=>by rw[bc (i c b r)];exact r) λc xs r=>by rw[bc (n c xs r)];exact r
   rcases hc with rfl|hc;·exact a
   ·rintro rfl;rcases g with z|z;·exact i c b hc z
    ·rw[hc]at z;cases z;exact hb rfl
end
structure Un(fs ex:List Addr)(H H':Hp)(h h':Heap):Prop where
 keep:∀b o,h.get? b=some o->H b=none->b∉fs->b∉ex->h'.get? b=some o
 slot:∀b o,h.get? b=some o->H b=none->b∈fs->b∉ex->∃sl,h'.get? b=some {o with slots:=sl}
 free:∀b o,h.get? b=some o->H b=none->b∉ex->H' b=none
 there:∀b o,h.get? b=some o->b∉ex->∃o',h'.get? b=some o'
 uz:∀b xs,H b=some (.tup xs)->H' b=some (.tup xs)
 nO:∀b o u,H b=some (.B3 o u)->H' b=some (.B3 o u)
 ug:∀b ps,H b=some (.GY ps)->H' b=some (.GY ps)
section
variable{fs fs' ex ex':List Addr}{H H1 H2:Hp}{h h1 h2 h':Heap}{a x e:Addr}{o:HO}
theorem Un.any(u:Un fs ex H H1 h h1){b:Addr}{ob:Obj}(q:h.get? b=some ob)(n:H b=none)(c:b∉ex):∃sl,h1.get? b=some {ob with slots:=sl}:=by
 by_cases hb:b∈fs;·exact u.slot b ob q n hb c
 ·exact⟨ob.slots,u.keep b ob q n hb c⟩
theorem Un.kept(k:∀b u,h.get? b=some u->h'.get? b=some u):Un fs ex H H h h':=⟨λb ob q _ _ _=>k b ob q,λb ob q _ _ _=>⟨ob.slots,k b ob q⟩,λ_ _ _ n _=>n,λb ob q _=>⟨ob,k b ob q⟩,λ_ _ q=>q,λ_ _ _ q=>q,λ_ ps q=>(by rw[q])⟩
theorem Un.refl:Un fs ex H H h h:=Un.kept λ_ _ q=>q
theorem Un.laid(k:∀b u,h.get? b=some u->h'.get? b=some u)(c:h.objs.size<=a)(hn:H a=none):Un fs ex H (upd H a o) h h' where
 keep:=λb u q _ _ _=>k b u q;slot:=λb u q _ _ _=>⟨u.slots,k b u q⟩;free:=λb u q n _=>by rw[bc (eH (iu (bZ q) c))];exact n
 there:=λb u q _=>⟨u,k b u q⟩;uz:=λb xs q=>by rw[bc (aI q hn)];exact q
 nO:=λb u xs q=>by rw[bc (aI q hn)];exact q
 ug:=λb ps q=>(by rw[bc (aI q hn),q])
theorem Un.write(c:Y4 (H x))(g:e=x\/H e=some (.own x))(k:∀b u,b≠e->h.get? b=some u->h'.get? b=some u)(i:∃u,h'.get? e=some u):Un fs ex H (upd H x o) h h':=by
 have f:∀b,H b=none->b≠x:=λb n z=>by subst z;rw[n]at c;exact c
 have hb:∀b,H b=none->b≠e:=λb n z=>by
  subst z;rcases g with r|r;·exact f b n r
  ·rw[n]at r;cases r
 have hm:∀b u,H b=some u->¬Y4 (some u)->b≠x:=λb u q nm z=>by subst z;rw[q]at c;exact nm c
 refine⟨λb u q n _ _=>k b u (hb b n) q,λb u q n _ _=>⟨u.slots,k b u (hb b n) q⟩,λb u q n _=>by rw[bc (f b n)];exact n,λb u q _=>?_,λb xs q=>by rw[bc (hm b _ q λz=>z)];exact q,λb u xs q=>by rw[bc (hm b _ q λz=>z)];exact q,λb ps q=>(by rw[bc (hm b _ q λz=>z),q])⟩;by_cases d:b=e;·subst d;exact i
 ·exact⟨u,k b u d q⟩
end
noncomputable def YQ(h:Heap)(H:Hp):List Addr:=(List.range h.objs.size).filter λa=>(H a).isSome
noncomputable def ub(h:Heap)(H:Hp):Heap:=PySem.W.hideAll h (YQ h H)
theorem vZ(h:Heap)(H:Hp):(ub h H).objs.size=h.objs.size:=PySem.W.hideAll_size _ _
theorem AF{h:Heap}{H:Hp}{b:Addr}{o:Obj}(e:h.get? b=some o)(n:H b=none):(ub h H).get? b=some o:=PySem.W.hideAll_get _ e λhm=>by have q:(H b).isSome=true:=(List.mem_filter.mp hm).2;rw[n]at q;simp at q
theorem Ee{h:Heap}{H:Hp}{b:Addr}{o:Obj}(e:(ub h H).get? b=some o):h.get? b=some o/\H b=none:=by have a:h.get? b=some o:=PySem.W.of_hideAll (YQ h H) e;refine⟨a,?_⟩;cases q:H b with|none=>rfl|some x=>have hm:b∈YQ h H:=List.mem_filter.mpr ⟨List.mem_range.mpr (bZ a),by simp[q]⟩;have z:(ub h H).get? b=none:=PySem.W.hideAll_none (YQ h H) hm;rw[z]at e;cases e
noncomputable def L9(g h:Heap)(L:Addr):List (Addr×Obj):=(List.range h.objs.size).filterMap λa=>if a=L\/(g.get? a).isSome=true then none else(h.get? a).map λo=>(a,o)
noncomputable def rest(g h:Heap)(L d:Addr):List (Addr×Obj):=(L9 g h L).filter λp=>decide (p.1≠d)
def Rl(mg:Str->Option Value)(h:Heap):Prop:=∃bm ob,mg "__builtins__"=some (.ref bm)/\bm≠builtinsNs/\h.get? bm=some ob/\ob.cls= .type "module"/\ob.dict=some builtinsNs/\ob.data= .plain
theorem Rl.keeps{mg:Str->Option Value}{h h':Heap}(x:Rl mg h)(k:∀b o,h.get? b=some o->h'.get? b=some o):Rl mg h':=let⟨bm,ob,a,b,c,d⟩:=x;⟨bm,ob,a,b,k _ _ c,d⟩
structure Mod(K:PySem.W.Frag)(mg:Str->Option Value)(base:Heap):Prop where
 FE:K.In base
 glob:base.Ns mainGlobals mg
 blt:∃mb,base.Ns builtinsNs mb/\∀x:Str,x≠"__name__"->mb x=bootBuiltins x
 nolimit:base.NoLimit
 bm:Rl mg base
structure Cx where
 prog:Program
 w:World
 K:PySem.W.Frag
 mg:Str->Option Value
 base:Heap
 A:Around
 N:List Str
 b4:Shared
 H₀:Hp
 env:Env
 outer:List Env
 stack:List Env
 ex:List Addr
 fn:Str->Bool
 calm:Bool
 pn:List (Addr×Obj)
 xe:Value->Shared->Prop
noncomputable def jn(l:List Env):List Addr:=l.filterMap (·.frame)
noncomputable abbrev Cx.fs(X:Cx):List Addr:=jn X.outer
def WG(sc:Scope)(x:Str):Prop:=sc.names.lookup x=some .local\/sc.names.lookup x=some .cell\/sc.names.lookup x=some .free
def Loc(sc:Scope)(x:Str):Prop:=sc.names.lookup x=some .local\/sc.names.lookup x=some .cell
noncomputable def Vj(sc:Scope)(x:Str):Bool:=match sc.names.lookup x with|some .local=>true|some .cell=>true|_=>false
theorem dh{sc:Scope}{x:Str}(h:Vj sc x=true):Loc sc x:=by
 unfold Vj at h;split at h;·exact Or.inl (by assumption)
 ·exact Or.inr (by assumption)
 ·cases h
noncomputable def Look(env:Env)(h:Heap)(m:Str->Option Value)(x:Str)(u:Value):Prop:=(env.kindOf x=some .local/\m x=some u)\/((env.kindOf x=some .cell\/env.kindOf x=some .free)/\∃c,env.cells.lookup x=some c/\h.IsCell c (some u))
structure Cx.Ok(X:Cx):Prop where
 mod:Mod X.K X.mg X.base
 kind:X.env.scope.kind= .function
 glob:X.env.globals=mainGlobals
 blt:X.env.builtins=builtinsNs
 above:X.b4.heap.objs.size<=X.env.locals
 inj:∀x y c,X.env.cells.lookup x=some c->X.env.cells.lookup y=some c->x=y
 has:∀x,(X.env.kindOf x=some .cell\/X.env.kindOf x=some .free)->∃c,X.env.cells.lookup x=some c
 T7:∀x c,X.fn x=true->X.env.cells.lookup x=some c->X.b4.heap.objs.size<=c
 hd:X.calm=true->HBp X.base X.pn X.A
 frames:X.A.frames=some X.stack
 W_:X.stack=X.outer\/(X.stack=X.env::X.outer/\X.env.frame=some X.env.locals)
 U5:∀b∈X.ex,b≠X.env.locals/\∀x c,X.env.cells.lookup x=some c->c≠b
 bs:∀b o,X.base.get? b=some o->X.b4.heap.get? b=some o/\X.H₀ b=none
 G5:X.base.objs.size<=X.b4.heap.objs.size
 B2:∀b o,X.base.get? b=some o->b∉X.ex
 Bg:∀b∈X.ex,b∉X.fs
 jU:X.b4.heap.FunFrames X.base X.outer
 N9:∀b∈X.fs,X.H₀ b=none
structure Inv(X:Cx)(pins:List (Addr×Obj))(σ:List (Option V))(H:Hp)(s:Shared):Prop where
 ok:X.Ok
 os:s.os=X.b4.os
 bare:AllBare s.gens
 base:Un X.fs X.ex X.H₀ H X.b4.heap s.heap
 loc:∃m,s.heap.Ns X.env.locals m/\∀(i:Nat)(x:Str)(v:V),X.N[i]?=some x->σ[i]?=some (some v)->WG X.env.scope x->∃u,RelV v u/\Look X.env s.heap m x u
 cell:∀x c,X.env.cells.lookup x=some c->∃v,s.heap.IsCell c v
 free:H X.env.locals=none
 gb:∀x c,X.env.cells.lookup x=some c->H c=none
 pin:∀p∈X.pn++pins,s.heap.get? p.1=some p.2/\H p.1=none/\p.1≠X.env.locals/\p.1∉X.fs/\∀v,p.2.data≠ .cell v
 cI:j3 X.prog X.w H s.heap
 len:σ.length=X.N.length
section
variable{X:Cx}{pins:List (Addr×Obj)}{σ:List (Option V)}{H H':Hp}{s:Shared}{h':Heap}
theorem Cx.Ok.Wi(ok:X.Ok){b:Addr}{o:Obj}(e:X.base.get? b=some o):b∉X.fs:=λhb=>by have :=(ok.jU.mem hb).1;rw[e]at this;cases this
theorem Inv.bs(I:Inv X pins σ H s):∀b o,X.base.get? b=some o->s.heap.get? b=some o/\H b=none:=λb o e=>⟨I.base.keep b o (I.ok.bs b o e).1 (I.ok.bs b o e).2 (I.ok.Wi e) (I.ok.B2 b o e),I.base.free b o (I.ok.bs b o e).1 (I.ok.bs b o e).2 (I.ok.B2 b o e)⟩
theorem Inv.bk(I:Inv X pins σ H s):∀b o,X.base.get? b=some o->s.heap.get? b=some o:=λb o e=>(I.bs b o e).1
theorem Inv.mod(I:Inv X pins σ H s):Mod X.K X.mg X.base:=I.ok.mod
theorem Inv.hb(I:Inv X pins σ H s)(hc:X.calm=true):HB s.heap X.A:=by
 rcases I.ok.hd hc with h|⟨a,oe,vs,b,c,d⟩;·exact .inl h
 ·exact .inr ⟨a,oe,vs,b,c.elim (I.bk a oe) λm=>(I.pin (a,oe) (kP _ m)).1,d⟩
theorem Inv.YJ(I:Inv X pins σ H s)(hc:X.calm=true){it:Addr}(f:it∈X.ex\/X.b4.heap.objs.size<=it)(g:∀p∈X.pn++pins,p.1≠it):∀a,X.A.handled=some (.ref a)->a≠it:=λa d z=>by
 subst z;rcases I.ok.hd hc with h|⟨b,oe,vs,e,c,i⟩;·rw[h]at d;cases d
 ·rw[e]at d;cases d;rcases c with c|c
  ·rcases f with z|z;·exact I.ok.B2 _ _ c z
   ·exact absurd (iu (bZ c) I.ok.G5) (Nat.not_lt.mpr z)
  ·exact g _ (kP _ c) rfl
theorem Inv.ic(I:Inv X pins σ H s):X.K.In s.heap:=I.ok.mod.FE.keeps I.bk
theorem Inv.fr(I:Inv X pins σ H s):∃m,Fr X.base X.env.locals s.heap m:=let⟨m,hn,_⟩:=I.loc;⟨m,hn,I.bk,dI I.ok.G5 I.ok.above⟩
theorem Inv.lt(I:Inv X pins σ H s):X.env.locals<s.heap.objs.size:=let⟨_,hn,_⟩:=I.loc;hn.lt
theorem Inv.sz(I:Inv X pins σ H s):X.b4.heap.objs.size<=s.heap.objs.size:=dI I.ok.above (Nat.le_of_lt I.lt)
theorem Inv.aaN(I:Inv X pins σ H s){a:Addr}(h:s.heap.objs.size<=a):a∉X.fs:=λhb=>by obtain⟨_,o,b,_⟩:=I.ok.jU.mem hb;exact absurd (iu (bZ b) (dI I.sz h)) (Nat.lt_irrefl _)
theorem Inv.O_(I:Inv X pins σ H s):∀x c,X.env.cells.lookup x=some c->c≠X.env.locals:=λx c e z=>by obtain⟨v,o,a,hd⟩:=I.cell x c e;obtain⟨m,⟨o',es,ep,d,b,_⟩,_⟩:=I.loc;rw[z,d]at a;cases a;rw[b]at hd;cases hd
theorem Inv.jU(I:Inv X pins σ H s):s.heap.FunFrames X.base X.outer:=by
 have all:∀(l:List Env),(∀b∈jn l,b∈X.fs)->X.b4.heap.FunFrames X.base l->s.heap.FunFrames X.base l:=by intro l;induction l with|nil=>intro _ _;trivial|cons env r i=>intro d hl;obtain⟨f,⟨L,o,c,hn,g,hd⟩,h⟩:=hl;have a:L∈X.fs:=d L (by unfold jn;rw[nV,c];exact b5);obtain⟨sl,e⟩:=I.base.slot L o g (I.ok.N9 L a) a λz=>I.ok.Bg L z a;exact⟨f,⟨L,_,c,hn,e,hd⟩,i (λb hb=>d b (by unfold jn;rw[nV,c];exact cU _ hb)) h⟩
 exact all X.outer (λ_ hb=>hb) I.ok.jU
theorem Inv.stack(I:Inv X pins σ H s):s.heap.FunFrames X.base X.stack:=by
 rcases I.ok.W_ with e|⟨e,a⟩;·rw[e];exact I.jU
 ·rw[e];obtain⟨m,hn,_⟩:=I.loc;refine .cons (by rw[I.ok.kind];decide) a hn ?_ I.jU;exact Heap.get?_none_of_le (dI I.ok.G5 I.ok.above)
theorem Inv.iD(I:Inv X pins σ H s):∀b∈jn X.stack,b∈X.env.locals::X.fs:=λb hb=>by
 rcases I.ok.W_ with e|⟨e,a⟩;·rw[e]at hb;exact cU _ hb
 ·rw[e]at hb;unfold jn at hb;rw[nV,a]at hb;exact hb
theorem Inv.xA(I:Inv X pins σ H s):∀b∈jn X.stack,H b=none:=λb hb=>by
 rcases List.mem_cons.mp (I.iD b hb)with e|hb;·rw[e];exact I.free
 ·obtain⟨_,o,a,_⟩:=I.ok.jU.mem hb;exact I.base.free b o a (I.ok.N9 b hb) λz=>I.ok.Bg b z hb
theorem Inv.step{g':Array GenState}{t':Nat}{d':Drawn}{ch:List Addr}(I:Inv X pins σ H s)(h:∀b∈ch,(b∈X.ex\/X.b4.heap.objs.size<=b)/\b≠X.env.locals/\(∀x c,X.env.cells.lookup x=some c->c≠b)/\∀p∈X.pn++pins,p.1≠b)(keep:∀b o,b≠X.env.locals->b∉X.fs->b∉ch->s.heap.get? b=some o->H b=none->h'.get? b=some o)(slot:∀b o,b≠X.env.locals->b∈X.fs->b∉ch->s.heap.get? b=some o->H b=none->∃sl,h'.get? b=some {o with slots:=sl})(free:∀b o,b∉ch->s.heap.get? b=some o->H b=none->H' b=none)(there:∀b o,b∉ch->s.heap.get? b=some o->∃o',h'.get? b=some o')(uz:∀b xs,H b=some (.tup xs)->H' b=some (.tup xs))(nO:∀b o u,H b=some (.B3 o u)->H' b=some (.B3 o u))(ug:∀b ps,H b=some (.GY ps)->H' b=some (.GY ps))(ns:∀m,s.heap.Ns X.env.locals m->h'.Ns X.env.locals m)(cI:j3 X.prog X.w H' h')(D:AllBare g'):Inv X pins σ H' {s with heap:=h',gens:=g',drawn:=d',toks:=t'}:=by
 have A:∀b o,X.b4.heap.get? b=some o->b≠X.env.locals:=λb o e=>eH (iu (bZ e) I.ok.above);have t:∀b o,X.b4.heap.get? b=some o->b∉X.ex->b∉ch:=λb o e a hb=>by
  rcases(h b hb).1 with z|z;·exact a z
  ·exact absurd (iu (bZ e) z) (Nat.lt_irrefl _)
 have cellK:∀x c,X.env.cells.lookup x=some c->∀v,s.heap.IsCell c v->h'.IsCell c v:=λx c e v⟨o,g,hd⟩=>by
  have j:c∉ch:=λz=>(h c z).2.2.1 x c e rfl;by_cases hc:c∈X.fs;·obtain⟨sl,q⟩:=slot c o (I.O_ x c e) hc j g (I.gb x c e);exact⟨_,q,hd⟩
  ·exact⟨o,keep c o (I.O_ x c e) hc j g (I.gb x c e),hd⟩
 refine⟨I.ok,I.os,D,⟨λb o e n hb a=>?_,λb o e n hb a=>?_,λb o e n a=>?_,λb o e a=>?_,λb xs e=>uz b xs (I.base.uz b xs e),λb o xs e=>nO b o xs (I.base.nO b o xs e),λb ps e=>?_⟩,?_,λx c e=>?_,?_,λx c e=>?_,λp y=>?_,cI,I.len⟩;·exact keep b o (A b o e) hb (t b o e a) (I.base.keep b o e n hb a) (I.base.free b o e n a)
 ·obtain⟨sl,f⟩:=I.base.slot b o e n hb a;obtain⟨E,w⟩:=slot b _ (A b o e) hb (t b o e a) f (I.base.free b o e n a);exact⟨E,w⟩
 ·obtain⟨o',f⟩:=I.base.there b o e a;exact free b o' (t b o e a) f (I.base.free b o e n a)
 ·obtain⟨o',f⟩:=I.base.there b o e a;exact there b o' (t b o e a) f
 ·exact ug b ps (I.base.ug b ps e)
 ·obtain⟨m,hn,hl⟩:=I.loc;refine⟨m,ns m hn,λi x v f w C=>?_⟩;obtain⟨u,r,l⟩:=hl i x v f w C;refine⟨u,r,?_⟩;rcases l with l|⟨k,c,e,z⟩;·exact .inl l
  ·exact .inr ⟨k,c,e,cellK x c e _ z⟩
 ·obtain⟨v,z⟩:=I.cell x c e;exact⟨v,cellK x c e v z⟩
 ·obtain⟨m,⟨o,_,_,g,_⟩,_⟩:=I.loc;exact free _ o (λz=>(h _ z).2.1 rfl) g I.free
 ·obtain⟨v,o,g,hd⟩:=I.cell x c e;exact free c o (λz=>(h c z).2.2.1 x c e rfl) g (I.gb x c e)
 ·obtain⟨e,n,ne,B,d⟩:=I.pin p y;have j:p.1∉ch:=λz=>(h p.1 z).2.2.2 p y rfl;exact⟨keep p.1 p.2 ne B j e n,free p.1 p.2 j e n,ne,B,d⟩
theorem Inv.un{t':Nat}(I:Inv X pins σ H s)(u:Un X.fs [] H H' s.heap h')(cI:j3 X.prog X.w H' h'):Inv X pins σ H' {s with heap:=h',toks:=t'}:=by obtain⟨m,⟨o,es,ep,a,r⟩,_⟩:=id I.loc;obtain⟨sl,g⟩:=u.any a I.free (by simp);exact I.step (g':=s.gens) (d':=s.drawn) (ch:=[]) (λ_ z=>nomatch z) (λb o _ hb _ e n=>u.keep b o e n hb (by simp)) (λb o _ hb _ e n=>u.slot b o e n hb (by simp)) (λb o _ e n=>u.free b o e n (by simp)) (λb o _ e=>u.there b o e (by simp)) u.uz u.nO u.ug (λi hm=>by obtain⟨o',f,d,c,h⟩:=hm;rw[a]at c;cases c;exact⟨_,f,d,g,h⟩) cI I.bare
theorem Inv.call{g':Array GenState}{t':Nat}{d':Drawn}{ch:List Addr}(I:Inv X pins σ H s)(u:Un (jn X.stack) ch H H' s.heap h')(cI:j3 X.prog X.w H' h')(j:AllBare g')(d:∀b∈ch,(b∈X.ex\/X.b4.heap.objs.size<=b)/\b≠X.env.locals/\(∀x c,X.env.cells.lookup x=some c->c≠b)/\∀p∈X.pn++pins,p.1≠b):Inv X pins σ H' {s with heap:=h',gens:=g',drawn:=d',toks:=t'}:=by obtain⟨m,⟨o,es,ep,f,r⟩,_⟩:=id I.loc;obtain⟨sl,a⟩:=u.any f I.free λz=>(d _ z).2.1 rfl;exact I.step (ch:=ch) d (λb o a hb hc e n=>u.keep b o e n (λz=>(List.mem_cons.mp (I.iD b z)).elim a hb) hc) (λb o _ _ hc e n=>u.any e n hc) (λb o hc e n=>u.free b o e n hc) (λb o hc e=>u.there b o e hc) u.uz u.nO u.ug (λl hm=>by obtain⟨o',i,h,g,k⟩:=hm;rw[f]at g;cases g;exact⟨_,i,h,a,k⟩) cI j
theorem Inv.turned{t':Nat}{it:Addr}(I:Inv X pins σ H s)(k:∀b o,b≠it->s.heap.get? b=some o->h'.get? b=some o)(hn:H it=none)(a:it≠X.env.locals)(h1:it∈X.ex\/X.b4.heap.objs.size<=it)(h2:∀x c,X.env.cells.lookup x=some c->c≠it)(h3:∀p∈X.pn++pins,p.1≠it):Inv X pins σ H {s with heap:=h',toks:=t'}:=by
 have d:∀b u,H b=some u->b≠it:=λb u e z=>by rw[z,hn]at e;cases e
 refine I.step (g':=s.gens) (d':=s.drawn) (ch:=[it]) (λb hb=>?_) (λb o _ _ hc e _=>k b o (λz=>hc (by simp[z])) e) (λb o _ _ hc e _=>⟨o.slots,k b o (λz=>hc (by simp[z])) e⟩) (λ_ _ _ _ n=>n) (λb o hc e=>⟨o,k b o (λz=>hc (by simp[z])) e⟩) (λ_ _ e=>e) (λ_ _ _ e=>e) (λb ps e=>(by rw[e])) (λm hm=>?_) (λb u e=>?_) I.bare
 ·have e:b=it:=by simpa using hb
  subst e;exact⟨h1,a,h2,h3⟩
 ·obtain⟨o,es,ep,f,r⟩:=hm;exact⟨o,es,ep,k _ o (Ne.symm a) f,r⟩
 ·refine(I.cI b u e).AK (λc v hc q=>k c v ?_ q) (λ_ q=>q) λ_ _ q=>q;rcases hc with z|z;·rw[z];exact d b u e
  ·exact d c _ z
theorem Inv.tok(I:Inv X pins σ H s)(t:Nat):Inv X pins σ H {s with toks:=t}:=I.un (h':=s.heap) (t':=t) Un.refl I.cI
theorem Inv.kept{t':Nat}(I:Inv X pins σ H s)(k:∀b u,s.heap.get? b=some u->h'.get? b=some u):Inv X pins σ H {s with heap:=h',toks:=t'}:=I.un (Un.kept k) (I.cI.kept k)
theorem Inv.laid{a:Addr}{o:HO}{t':Nat}(I:Inv X pins σ H s)(k:∀b u,s.heap.get? b=some u->h'.get? b=some u)(c:s.heap.objs.size<=a)(new:dR X.prog X.w (upd H a o) h' a o):Inv X pins σ (upd H a o) {s with heap:=h',toks:=t'}:=I.un (Un.laid k c (I.cI.fresh c)) (I.cI.laid k c new)
theorem Inv.write{x e:Addr}{o:HO}{t':Nat}(I:Inv X pins σ H s)(d:Y4 (H x))(a:e=x\/H e=some (.own x))(k:∀b u,b≠e->s.heap.get? b=some u->h'.get? b=some u)(c:∃u,h'.get? e=some u)(new:dR X.prog X.w (upd H x o) h' x o):Inv X pins σ (upd H x o) {s with heap:=h',toks:=t'}:=I.un (Un.write d a k c) (I.cI.write d a k c new)
theorem Inv.weak{a:List (Option V)}(I:Inv X pins σ H s)(hl:a.length=σ.length)(w:∀(i:Nat)v,a[i]?=some (some v)->σ[i]?=some (some v)):Inv X pins a H s:=⟨I.ok,I.os,I.bare,I.base,let⟨m,hn,e⟩:=I.loc;⟨m,hn,λi x v b c d=>e i x v b (w i v c) d⟩,I.cell,I.free,I.gb,I.pin,I.cI,hl.trans I.len⟩
theorem Inv.oR{a:List (Addr×Obj)}(I:Inv X pins σ H s)(h:∀p∈a,s.heap.get? p.1=some p.2/\H p.1=none/\p.1≠X.env.locals/\p.1∉X.fs/\∀v,p.2.data≠ .cell v):Inv X a σ H s:=⟨I.ok,I.os,I.bare,I.base,I.loc,I.cell,I.free,I.gb,λp b=>(List.mem_append.mp b).elim (λz=>I.pin p (kP _ z)) (h p),I.cI,I.len⟩
theorem tQ{N:List Str}(e:N.Nodup){i j:Nat}{x:Str}(a:N[i]?=some x)(b:N[j]?=some x):i=j:=by obtain⟨h1,c⟩:=List.getElem?_eq_some_iff.mp a;obtain⟨h2,d⟩:=List.getElem?_eq_some_iff.mp b;exact(List.getElem_inj e).mp (c.trans d.symm)
theorem vO{M:Model}{A:Around}{E:Value->Shared->Prop}{i:Nat}{x:Str}{v:V}{u:Value}{Q:Unit->Shared->Prop}(I:Inv X pins σ H s)(P:X.N.Nodup)(hi:X.N[i]?=some x)(l:Loc X.env.scope x)(r:RelV v u)(h:∀s',Inv X pins (σ.set i (some v)) H s'->(∃a,Heap.SameBut a s.heap s'.heap/\(a=X.env.locals\/X.env.cells.lookup x=some a))->Q () s')(Z:X.fn x=true\/X.env.scope.names.lookup x=some .local:=by first|exact .inl rfl|exact .inr rfl|assumption):wpAny M A (storeName X.env x u) Q E s:=by
 obtain⟨m,hn,hl⟩:=id I.loc;have Y:(X.env.scope.kind== .class||(X.env.scope.kind== .module&&X.env.locals !=X.env.globals))=false:=by rw[I.ok.kind];rfl
 have U:i<σ.length:=by rw[I.len];exact(List.getElem?_eq_some_iff.mp hi).1
 have O_:=I.O_;have tracked:∀{a:Addr}{h':Heap},(∃o,s.heap.get? a=some o/\H a=none)->Heap.SameBut a s.heap h'->j3 X.prog X.w H h':=λ{a h'}ha f b ob e=>by
  obtain⟨_,_,T⟩:=ha;refine(I.cI b ob e).AK (λc D hc q=>(f.2 c ?_).trans q) (λ_ q=>q) λ_ _ q=>q;rintro rfl;rcases hc with rfl|hc;·rw[T]at e;cases e
  ·rw[T]at hc;cases hc
 rcases l with w|w
 ·refine wpAny_storeName_local w hn (λh' Uo f=>?_) Y;obtain⟨oL,_,_,hoL,_⟩:=id hn;refine h _ ⟨I.ok,I.os,I.bare,⟨λb o e n hb l=>?_,λb o e n hb l=>?_,I.base.free,λb o e l=>?_,I.base.uz,I.base.nO,I.base.ug⟩,⟨_,Uo,λj y O g t F=>?_⟩,λy c e=>?_,I.free,I.gb,λp J=>?_,tracked ⟨oL,hoL,I.free⟩ f,by simpa using I.len⟩ ⟨_,f, .inl rfl⟩;·exact(f.2 b (eH (iu (bZ e) I.ok.above))).trans (I.base.keep b o e n hb l)
  ·obtain⟨sl,g⟩:=I.base.slot b o e n hb l;exact⟨sl,(f.2 b (eH (iu (bZ e) I.ok.above))).trans g⟩
  ·obtain⟨o',g⟩:=I.base.there b o e l;exact⟨o',(f.2 b (eH (iu (bZ e) I.ok.above))).trans g⟩
  ·by_cases B:j=i;·subst B;rw[hi]at g;cases g;rw[List.getElem?_set_self U]at t;cases t;exact⟨u,r, .inl ⟨w,by simp⟩⟩
   ·rw[List.getElem?_set_ne (Ne.symm B)]at t;obtain⟨N,L,q⟩:=hl j y O g t F;refine⟨N,L,?_⟩;rcases q with⟨k,e⟩|⟨k,c,e,z⟩;·refine .inl ⟨k,?_⟩;have :y≠x:=λe=>B (tQ P g (e▸hi));simp[this,e]
    ·exact .inr ⟨k,c,e,z.sameBut f (O_ y c e)⟩
  ·obtain⟨D,z⟩:=I.cell y c e;exact⟨D,z.sameBut f (O_ y c e)⟩
  ·obtain⟨e,n,ne,K,d⟩:=I.pin p J;exact⟨(f.2 p.1 ne).trans e,n,ne,K,d⟩
 ·have G:X.fn x=true:=by
   rcases Z with z|z;·exact z
   ·rw[z]at w;cases w
  obtain⟨c,hc⟩:=I.ok.has x (.inl w);obtain⟨D,z⟩:=I.cell x c hc;refine wpAny_storeName_cell I.ok.kind w hc z (λh' R f=>?_);obtain⟨oc,W,aaS⟩:=id z;refine h {s with heap:=h'} ⟨I.ok,I.os,I.bare,⟨λb o e n hb l=>?_,λb o e n hb l=>?_,I.base.free,λb o e l=>?_,I.base.uz,I.base.nO,I.base.ug⟩,⟨m,hn.sameBut f (Ne.symm (O_ x c hc)),λj y O g t F=>?_⟩,λy C e=>?_,I.free,I.gb,λp J=>?_,tracked ⟨oc,W,I.gb x c hc⟩ f,by simpa using I.len⟩ ⟨c,f, .inr hc⟩;·exact(f.2 b (eH (iu (bZ e) (I.ok.T7 x c G hc)))).trans (I.base.keep b o e n hb l)
  ·obtain⟨sl,g⟩:=I.base.slot b o e n hb l;exact⟨sl,(f.2 b (eH (iu (bZ e) (I.ok.T7 x c G hc)))).trans g⟩
  ·obtain⟨o',g⟩:=I.base.there b o e l;exact⟨o',(f.2 b (eH (iu (bZ e) (I.ok.T7 x c G hc)))).trans g⟩
  ·by_cases B:j=i;·subst B;rw[hi]at g;cases g;rw[List.getElem?_set_self U]at t;cases t;exact⟨u,r, .inr ⟨.inl w,c,hc,R⟩⟩
   ·rw[List.getElem?_set_ne (Ne.symm B)]at t;obtain⟨N,L,q⟩:=hl j y O g t F;refine⟨N,L,?_⟩;rcases q with q|⟨k,C,e,z'⟩;·exact .inl q
    ·refine .inr ⟨k,C,e,z'.sameBut f ?_⟩;rintro rfl;exact B (tQ P g (I.ok.inj _ _ _ e hc▸hi))
  ·by_cases S:C=c;·subst S;exact⟨_,R⟩
   ·obtain⟨w2,z2⟩:=I.cell y C e;exact⟨w2,z2.sameBut f S⟩
  ·obtain⟨e,n,ne,K,d⟩:=I.pin p J;refine⟨(f.2 p.1 ?_).trans e,n,ne,K,d⟩;intro q;rw[q,W]at e;have q':oc=p.2:=Option.some.inj e;exact d D (by rw[<-q'];exact aaS)
theorem iC{M:Model}{A:Around}{E:Value->Shared->Prop}{i:Nat}{x:Str}{v:V}{u:Value}{Q:Unit->Shared->Prop}(I:Inv X pins σ H s)(b:X.N.Nodup)(hi:X.N[i]?=some x)(d:Loc X.env.scope x)(r:RelV v u)(h:∀s',Inv X pins (σ.set i (some v)) H s'->Q () s')(c:X.fn x=true\/X.env.scope.names.lookup x=some .local:=by first|exact .inl rfl|exact .inr rfl|assumption):wpAny M A (storeName X.env x u) Q E s:=vO I b hi d r (λs' a _=>h s' a) c
theorem Inv.JC{s':Shared}{ch:List Addr}(I:Inv X pins σ H s)(f:s'.os=s.os)(u:Un (jn X.stack) ch H H' s.heap s'.heap)(cI:j3 X.prog X.w H' s'.heap)(d:AllBare s'.gens)(a:∀b∈ch,(b∈X.ex\/X.b4.heap.objs.size<=b)/\b≠X.env.locals/\(∀x c,X.env.cells.lookup x=some c->c≠b)/\∀p∈X.pn++pins,p.1≠b):Inv X pins σ H' s':=by obtain⟨h',g',d',t',o'⟩:=s';have e:o'=s.os:=f;subst e;exact I.call (g':=g') (t':=t') (d':=d') u cI d a
end
noncomputable abbrev XK:=Value->Option Addr->Hp->Prop
noncomputable abbrev St:=List (Option V)
noncomputable abbrev VK:=V->Hp->Prop
noncomputable abbrev TE:=St->Hp->VK->Prop
noncomputable abbrev TT:=St->Hp->(Bool->Hp->Prop)->Prop
noncomputable abbrev TA:=St->Hp->(List V->Hp->Prop)->Prop
structure Ends where
 nx:St->Hp->Prop
 rt:VK
 bk:St->Hp->Prop:=λ_ _=>False
 ct:St->Hp->Prop:=λ_ _=>False
noncomputable abbrev TS:=Ends->St->Hp->Prop
def EP(X:Cx)(pins:List (Addr×Obj))(σ:St)(Q:VK)(u:Value)(s':Shared):Prop:=∃v H',Inv X pins σ H' s'/\RelV v u/\Q v H'
def TP(X:Cx)(pins:List (Addr×Obj))(σ:St)(Q:Bool->Hp->Prop)(b:Bool)(s':Shared):Prop:=∃H',Inv X pins σ H' s'/\Q b H'
def AP(X:Cx)(pins:List (Addr×Obj))(σ:St)(Q:List V->Hp->Prop)(us:List Value)(s':Shared):Prop:=∃vs H',Inv X pins σ H' s'/\Vals vs us/\Q vs H'
noncomputable def SP(X:Cx)(pins:List (Addr×Obj))(D:Ends)(f:Flow)(s':Shared):Prop:=match f with| .next=>∃a H',Inv X pins a H' s'/\D.nx a H'| .brk=>∃a H',Inv X pins a H' s'/\D.bk a H'| .cont=>∃a H',Inv X pins a H' s'/\D.ct a H'| .ret u=>∃v a H',Inv X pins a H' s'/\RelV v u/\D.rt v H'
noncomputable def PE(X:Cx)(e:Expr)(t:TE):Prop:=∀(pins:List (Addr×Obj))(s:Shared)(σ:St)(H:Hp)(Q:VK),Inv X pins σ H s->t σ H Q->wpAny (model X.prog X.w) X.A (eval e X.env) (EP X pins σ Q) X.xe s
noncomputable def PT(X:Cx)(e:Expr)(t:TT):Prop:=∀(pins:List (Addr×Obj))(s:Shared)(σ:St)(H:Hp)(Q:Bool->Hp->Prop),Inv X pins σ H s->t σ H Q->wpAny (model X.prog X.w) X.A (isTrue e X.env (eval e X.env)) (TP X pins σ Q) X.xe s
noncomputable def PW(X:Cx)(e:Expr)(t:TT):Prop:=∀(whole:Sem Value)(pins:List (Addr×Obj))(s:Shared)(σ:St)(H:Hp)(Q:Bool->Hp->Prop),Inv X pins σ H s->t σ H Q->wpAny (model X.prog X.w) X.A (isTrue e X.env whole) (TP X pins σ Q) X.xe s
theorem PW.pt{X:Cx}{e:Expr}{t:TT}(h:PW X e t):PT X e t:=h _
noncomputable def PA(X:Cx)(es:List Expr)(t:TA):Prop:=∀(a:Pos)(pins:List (Addr×Obj))(s:Shared)(σ:St)(H:Hp)(Q:List V->Hp->Prop),Inv X pins σ H s->t σ H Q->wpAny (model X.prog X.w) X.A (spliced (backTo a (starEach es X.env))) (AP X pins σ Q) X.xe s
noncomputable def PS(X:Cx)(st:Stmt)(t:TS):Prop:=∀(pins:List (Addr×Obj))(s:Shared)(σ:St)(H:Hp)(D:Ends),Inv X pins σ H s->t D σ H->wpAny (model X.prog X.w) X.A (exec st X.env) (SP X pins D) X.xe s
noncomputable def jx(X:Cx)(st:List Stmt)(t:TS):Prop:=∀(pins:List (Addr×Obj))(s:Shared)(σ:St)(H:Hp)(D:Ends),Inv X pins σ H s->t D σ H->wpAny (model X.prog X.w) X.A (execs st X.env) (SP X pins D) X.xe s
theorem bR{c:Type}{t:Sem c}{Q b:c->Shared->Prop}{M:Model}{A:Around}{E:Value->Shared->Prop}{s:Shared}(h:wpAny M A t Q E s)(d:∀a s,Q a s->b a s):wpAny M A t b E s:=fk h d λ_ _ x=>x
section
variable{X:Cx}
noncomputable def bX(i:Nat):TE:=λσ H Q=>∃v,σ[i]?=some (some v)/\Q v H
noncomputable def tC(v:V):TE:=λ_ H Q=>Q v H
theorem To{i:Nat}{x:Str}{j:Pos}(d:X.N[i]?=some x)(g:WG X.env.scope x)(hd:(x==("__debug__":Str))=false:=by decide)(f:(x==("__classdict__":Str))=false:=by decide):PE X (.Name x j) (bX i):=by
 intro pins s σ H Q I h;obtain⟨v,e,h⟩:=h;obtain⟨m,hn,hl⟩:=I.loc;obtain⟨u,r,l⟩:=hl i x v d e g;have fin:EP X pins σ Q u s:=⟨v,H,I,r,h⟩;rcases l with⟨a,hm⟩|⟨a,c,hc,b⟩;·exact wpAny_Name (wpAny_loadName_local I.ok.kind a hn hm fin) hd
 ·rcases a with a|a;·exact wpAny_Name (wpAny_loadName_cell I.ok.kind a hc b fin) hd
  ·exact wpAny_Name (wpAny_loadName_free I.ok.kind a hc b fin f) hd
theorem aj{i j a}:PE X (.Constant (.int i) j a) (tC (.int i)):=λ_ _ _ H _ I h=>wpAny_Constant_int ⟨.int i,H,I.tok _,⟨_,rfl⟩,h⟩
theorem wC{b j a}:PE X (.Constant (.bool b) j a) (tC (.bl b)):=λ_ _ _ H _ I h=>Constant_bool ⟨.bl b,H,I,rfl,h⟩
theorem yt{j a}:PE X (.Constant .none j a) (tC .bU):=λ_ _ _ H _ I h=>Constant_none ⟨.bU,H,I,rfl,h⟩
theorem ai{x j a}:PE X (.Constant (.str x) j a) (tC (.str x)):=λ_ _ _ H _ I h=>Calls.Constant_str ⟨.str x,H,I.tok _,⟨_,rfl⟩,h⟩
def Gl(X:Cx)(x:Str):Prop:=X.env.kindOf x=some .globalImplicit
theorem gy{E:Value->Shared->Prop}{pins:List (Addr×Obj)}{s:Shared}{σ:St}{H:Hp}{x:Str}{u:Value}{b:Pos}{Q:Value->Shared->Prop}(I:Inv X pins σ H s)(a:Gl X x)(hm:X.mg x=some u)(h:Q u s)(hd:(x==("__debug__":Str))=false:=by decide):wpAny (model X.prog X.w) X.A (eval (.Name x b) X.env) Q E s:=Calls.Name_function_global I.ok.kind a (Calls.loadGlobal_global (by rw[I.ok.glob];exact I.mod.glob.keeps I.bk) hm h) hd
theorem jS{E:Value->Shared->Prop}{pins:List (Addr×Obj)}{s:Shared}{σ:St}{H:Hp}{x:Str}{u:Value}{c:Pos}{Q:Value->Shared->Prop}(I:Inv X pins σ H s)(a:Gl X x)(hm:X.mg x=none)(b:bootBuiltins x=some u)(h:Q u s)(hn:x≠"__name__":=by decide)(hd:(x==("__debug__":Str))=false:=by decide):wpAny (model X.prog X.w) X.A (eval (.Name x c) X.env) Q E s:=by obtain⟨mb,h1,h2⟩:=I.mod.blt;exact Calls.Name_function_global I.ok.kind a (Calls.loadGlobal_builtin (by rw[I.ok.glob];exact I.mod.glob.keeps I.bk) hm (by rw[I.ok.blt];exact h1.keeps I.bk) ((h2 x hn).trans b) h) hd
theorem yp{x:Str}{v:V}{u:Value}{b:Pos}(a:Gl X x)(hm:X.mg x=some u)(r:RelV v u)(hd:(x==("__debug__":Str))=false:=by decide):PE X (.Name x b) (tC v):=λ_ _ _ H _ I h=>gy I a hm ⟨v,H,I,r,h⟩ hd
theorem Ni{x:Str}{v:V}{u:Value}{c:Pos}(a:Gl X x)(hm:X.mg x=none)(b:bootBuiltins x=some u)(r:RelV v u)(hn:x≠"__name__":=by decide)(hd:(x==("__debug__":Str))=false:=by decide):PE X (.Name x c) (tC v):=λ_ _ _ H _ I h=>jS I a hm b ⟨v,H,I,r,h⟩ hn hd
variable{a b:Expr}{ta tb:TE}{pos:Pos}
noncomputable def PC(X:Cx)(op:CmpOp)(a b:Expr)(t:TE):Prop:=∀(pins:List (Addr×Obj))(s:Shared)(σ:St)(H:Hp)(Q:VK),Inv X pins σ H s->t σ H Q->wpAny (model X.prog X.w) X.A (eval a X.env) (λv c=>wpAny (model X.prog X.w) X.A (eval b X.env) (λu d=>wpAny (model X.prog X.w) X.A (compareOp op v u) (EP X pins σ Q) X.xe d) X.xe c) X.xe s
noncomputable def tB(t:TE):TT:=λσ H Q=>t σ H λx d=>∃c,x= .bl c/\Q c d
theorem eF{e:Expr}{t:TE}(h:PE X e t)(g:∀whole,isTrue e X.env whole=(do let v<-whole;standAt e.pos;holding [v] (truthy v)):=by intro _;rfl):PT X e (tB t):=by intro pins s σ H Q I hw;refine isTrue_plain (bR (h pins s σ H _ I hw) λv s1 k=>?_) (g _);obtain⟨x,c,f,j,i⟩:=k;obtain⟨d,rfl,q⟩:=i;cases j;exact wpAny_truthy_bool ⟨c,f,q⟩
variable{tA Yz:TT}{rest:List Expr}
noncomputable def WM(t u:TT):TT:=λσ H Q=>t σ H λc d=>if c=true then u σ d Q else Q false d
noncomputable def tOr(t u:TT):TT:=λσ H Q=>t σ H λc d=>if c=true then Q true d else u σ d Q
noncomputable def aaY(t:TT):TT:=λσ H Q=>t σ H λc d=>Q (!c) d
theorem gf(ha:PT X a tA):PW X (.BoolOp .And [a] pos) tA:=by intro d pins s σ H Q I h;refine isTrue_and (bR (ha pins s σ H Q I h) λc s1 e=>?_);cases c with|true=>exact isTrue_and_nil e|false=>exact e
theorem dH(ha:PT X a tA):PW X (.BoolOp .Or [a] pos) tA:=by intro d pins s σ H Q I h;refine isTrue_or (bR (ha pins s σ H Q I h) λc s1 e=>?_);cases c with|false=>exact isTrue_or_nil e|true=>exact e
theorem iH(ha:PT X a tA)(hb:PW X (.BoolOp .And (b::rest) pos) Yz):PW X (.BoolOp .And (a::b::rest) pos) (WM tA Yz):=by intro g pins s σ H Q I h;refine isTrue_and (bR (ha pins s σ H _ I h) λc s1 i=>?_);obtain⟨d,e,f⟩:=i;cases c with|true=>exact hb g pins s1 σ d Q e f|false=>exact⟨d,e,f⟩
theorem dN(ha:PT X a tA)(hb:PW X (.BoolOp .Or (b::rest) pos) Yz):PW X (.BoolOp .Or (a::b::rest) pos) (tOr tA Yz):=by intro g pins s σ H Q I h;refine isTrue_or (bR (ha pins s σ H _ I h) λc s1 i=>?_);obtain⟨d,e,f⟩:=i;cases c with|true=>exact⟨d,e,f⟩|false=>exact hb g pins s1 σ d Q e f
theorem lP(ha:PT X a tA):PT X (.UnaryOp .Not a pos) (aaY tA):=by intro pins s σ H Q I h;exact isTrue_not (ha pins s σ H (λc d=>Q (!c) d) I h)
noncomputable def Vn(ta tb:TE):TE:=λσ H Q=>ta σ H λx d=>∃c,x= .bl c/\if c=true then tb σ d Q else Q (.bl false) d
theorem tN{op}{t:TE}(h:PE X a t):PE X (.BoolOp op [a] pos) t:=λpins s σ H Q I hw=>BoolOp_one (h pins s σ H Q I hw)
theorem ua(ha:PE X a ta)(hb:PE X (.BoolOp .And (b::rest) pos) tb):PE X (.BoolOp .And (a::b::rest) pos) (Vn ta tb):=by intro pins s σ H Q I h;refine BoolOp_and (bR (ha pins s σ H _ I h) λv s1 i=>?_);obtain⟨x,e,f,g,d⟩:=i;obtain⟨c,rfl,d⟩:=d;cases g;refine wpAny_truthy_bool ?_;cases c with|true=>exact hb pins s1 σ e Q f d|false=>exact⟨.bl false,e,f,rfl,d⟩
noncomputable def tIf(t:TT)(ta tb:TE):TE:=λσ H Q=>t σ H λc d=>if c=true then ta σ d Q else tb σ d Q
theorem tW{c:Expr}(hc:PT X c tA)(ha:PE X a ta)(hb:PE X b tb):PE X (.IfExp c a b pos) (tIf tA ta tb):=by intro pins s σ H Q I h;refine wpAny_IfExp (bR (hc pins s σ H _ I h) λd s1 i=>?_);obtain⟨e,f,g⟩:=i;cases d with|true=>exact ha pins s1 σ e Q f g|false=>exact hb pins s1 σ e Q f g
end
noncomputable def bj(K:PySem.W.Frag)(H:Hp)(a:Addr)(xs:List V):Prop:=Rd H a (.lst xs)\/∃(o:Obj)(its:Array Value)(n:Nat),K.lookup a=some o/\o.cls= .type "list"/\o.dict=none/\o.data= .seq its n/\its.size<=sizeLine/\Vals xs its.toList
noncomputable def gG(K:PySem.W.Frag)(H:Hp)(a:Addr)(xs:List V):Prop:=Rd H a (.tup xs)\/∃(o:Obj)(its:Array Value)(n:Nat),K.lookup a=some o/\o.cls= .type "tuple"/\o.data= .seq its n/\its.size<=sizeLine/\Vals xs its.toList
noncomputable def Z9:Value->Option V| .none=>some .bU| .bool b=>some (.bl b)| .int i _=>some (.int i)| .str x _=>some (.str x)| .bytes b _=>some (.GC b)| .float b _=>some (.Qe b)| .ref a=>some (.ref a)| .type n=>some (.ty n)|_=>none
theorem RelV.abs{x:V}{u:Value}(r:RelV x u):Z9 u=some x:=by cases x with|bU=>cases r;rfl|bl _=>cases r;rfl|int _=>obtain⟨t,rfl⟩:=r;rfl|str _=>obtain⟨t,rfl⟩:=r;rfl|GC _=>obtain⟨t,rfl⟩:=r;rfl|Qe _=>obtain⟨t,rfl⟩:=r;rfl|ref _=>cases r;rfl|ty _=>cases r;rfl
theorem RelV.inj{x y:V}{u:Value}(r:RelV x u)(q:RelV y u):x=y:=Option.some.inj (r.abs.symm.trans q.abs)
theorem Vals.inj:∀{xs ys:List V}{us:List Value},Vals xs us->Vals ys us->xs=ys|_,_,_, .nil, .nil=>rfl|_,_,_, .cons r t, .cons a t'=>by rw[r.inj a,Vals.inj t t']
section
variable{X:Cx}{pins:List (Addr×Obj)}{σ:St}{H:Hp}{s:Shared}{a:Addr}{xs ys:List V}
theorem bj.of{K:PySem.W.Frag}(h:H a=some (.lst xs)):bj K H a xs:= .inl (.inl h)
theorem gG.of{K:PySem.W.Frag}(h:H a=some (.tup xs)):gG K H a xs:= .inl (.inl h)
theorem Inv.list(I:Inv X pins σ H s)(h:bj X.K H a xs):∃its:List Value,Vals xs its/\PlainL s.heap a its.toArray/\xs.length<=sizeLine:=by
 rcases h with h|⟨o,its,n,b,hc,hd,c,d,r⟩;·obtain⟨z,its,n,r,e⟩:=h.ok I.cI;exact⟨its,r,⟨_,n,e,rfl,rfl,rfl⟩,z⟩
 ·refine⟨its.toList,r,⟨o,n,I.ic a o b,hc,hd,by simpa using c⟩,?_⟩;have e:=r.length;simp only[Array.length_toList]at e;lia
theorem Inv.tuple(I:Inv X pins σ H s)(h:gG X.K H a xs):∃its:List Value,Vals xs its/\IsTup s.heap a its.toArray/\xs.length<=sizeLine:=by
 rcases h with h|⟨o,its,n,b,hc,c,d,r⟩;·obtain⟨z,its,r,p⟩:=h.ok I.cI;exact⟨its,r,p,z⟩
 ·refine⟨its.toList,r,⟨o,I.ic a o b,hc,n,by simpa using c⟩,?_⟩;have e:=r.length;simp only[Array.length_toList]at e;lia
theorem Inv.AI(I:Inv X pins σ H s)(h:bj X.K H a xs)(h':bj X.K H a ys):xs=ys:=by
 obtain⟨its,r,⟨o,n,e,_,_,d⟩,_⟩:=I.list h;obtain⟨its',f,⟨o',g,b,_,_,d'⟩,_⟩:=I.list h';rw[e]at b;cases b;rw[d]at d';injection d' with c _;have :its=its':=by simpa using congrArg Array.toList c
 subst this;exact r.inj f
theorem Inv.Gf(I:Inv X pins σ H s)(h:gG X.K H a xs)(h':gG X.K H a ys):xs=ys:=by
 obtain⟨its,r,⟨o,e,_,n,d⟩,_⟩:=I.tuple h;obtain⟨its',f,⟨o',b,_,g,d'⟩,_⟩:=I.tuple h';rw[e]at b;cases b;rw[d]at d';injection d' with c _;have :its=its':=by simpa using congrArg Array.toList c
 subst this;exact r.inj f
end
noncomputable abbrev Cx.lJ(X:Cx)(E:Value->Shared->Prop):Cx:={X with xe:=E}
noncomputable abbrev Cx.DT(X:Cx):Cx:=X.lJ λ_ _=>False
theorem Cx.Ok.lJ{X:Cx}(ok:X.Ok)(E:Value->Shared->Prop):(X.lJ E).Ok:=⟨ok.mod,ok.kind,ok.glob,ok.blt,ok.above,ok.inj,ok.has,ok.T7,ok.hd,ok.frames,ok.W_,ok.U5,ok.bs,ok.G5,ok.B2,ok.Bg,ok.jU,ok.N9⟩
theorem Cx.Ok.ei{X:Cx}{E:Value->Shared->Prop}(ok:(X.lJ E).Ok):X.Ok:=⟨ok.mod,ok.kind,ok.glob,ok.blt,ok.above,ok.inj,ok.has,ok.T7,ok.hd,ok.frames,ok.W_,ok.U5,ok.bs,ok.G5,ok.B2,ok.Bg,ok.jU,ok.N9⟩
section
variable{X:Cx}{pins:List (Addr×Obj)}{σ:St}{H:Hp}{s:Shared}{E:Value->Shared->Prop}
theorem Inv.lJ(I:Inv X pins σ H s)(E:Value->Shared->Prop):Inv (X.lJ E) pins σ H s:=⟨I.ok.lJ E,I.os,I.bare,I.base,I.loc,I.cell,I.free,I.gb,I.pin,I.cI,I.len⟩
theorem Inv.ei(I:Inv (X.lJ E) pins σ H s):Inv X pins σ H s:=⟨I.ok.ei,I.os,I.bare,I.base,I.loc,I.cell,I.free,I.gb,I.pin,I.cI,I.len⟩
theorem SP.ei{D:Ends}{f:Flow}{s':Shared}(h:SP (X.lJ E) pins D f s'):SP X pins D f s':=by cases f with|next=>obtain⟨a,H',I,q⟩:=h;exact⟨a,H',I.ei,q⟩|brk=>obtain⟨a,H',I,q⟩:=h;exact⟨a,H',I.ei,q⟩|cont=>obtain⟨a,H',I,q⟩:=h;exact⟨a,H',I.ei,q⟩|ret u=>obtain⟨v,a,H',I,r,q⟩:=h;exact⟨v,a,H',I.ei,r,q⟩
theorem jx.DT{st:List Stmt}{t:TS}(h:jx X.DT st t):jx X st t:=λpins s σ H D I hw=>fk (h pins s σ H D (I.lJ _) hw) (λ_ _ q=>q.ei) λ_ _ z=>False.elim z
end
section
variable{X:Cx}{st:Stmt}{rest:List Stmt}{t u:TS}{e:Expr}{te:TE}{pos:Pos}
noncomputable def PN:TS:=λD σ H=>D.nx σ H
noncomputable def aQ(t u:TS):TS:=λD σ H=>t {D with nx:=u D} σ H
theorem aC:jx X [] PN:=λ_ _ σ H _ I h=>wpAny_execs_nil ⟨σ,H,I,h⟩
theorem ah(h1:PS X st t)(h2:jx X rest u):jx X (st::rest) (aQ t u):=by intro pins s σ H D I h;refine wpAny_execs_cons (bR (h1 pins s σ H {D with nx:=u D} I h) λf s1 q=>?_);cases f with|next=>obtain⟨b,H',a,q⟩:=q;exact h2 pins s1 b H' D a q|ret v=>exact q|brk=>exact q|cont=>exact q
theorem ao(h1:PS X st t):jx X [st] t:=by intro pins s σ H D I h;refine wpAny_execs_cons (bR (h1 pins s σ H D I h) λf s1 q=>?_);cases f with|next=>exact wpAny_execs_nil q|ret v=>exact q|brk=>exact q|cont=>exact q
theorem Inv.quiet{pins:List (Addr×Obj)}{σ:St}{H:Hp}{s:Shared}(I:Inv X pins σ H s):interactive X.env=false:=by simp[interactive,I.ok.kind]
noncomputable def N5(te:TE):TS:=λD σ H=>te σ H λ_ a=>D.nx σ a
theorem gY(c:PE X e te)(d:swapsWith e none pos.line X.env=pure false:=by rfl):PS X (.Expr e pos) (N5 te):=by intro pins s σ H D I h;exact wpAny_Expr_any (bR (c pins s σ H _ I h) λv s1⟨x,a,b,g,f⟩=>⟨σ,a,b,f⟩) I.quiet d
noncomputable def FR(te:TE):TS:=λD σ H=>te σ H D.rt
theorem aB(c:PE X e te):PS X (.Return (some e) pos) (FR te):=by intro pins s σ H D I h;exact wpAny_Return_some (bR (c pins s σ H _ I h) λv s1⟨x,a,b,f,d⟩=>⟨x,σ,a,b,f,d⟩)
noncomputable def U3(c:TT)(t u:TS):TS:=λD σ H=>c σ H λb a=>if b=true then t D σ a else u D σ a
theorem aS{c:Expr}{a b:List Stmt}{j:TT}(hc:PT X c j)(ha:jx X a t)(hb:jx X b u):PS X (.If c a b pos) (U3 j t u):=by intro pins s σ H D I h;refine wpAny_If (bR (hc pins s σ H _ I h) λd s1 k=>?_);obtain⟨f,g,i⟩:=k;cases d with|true=>exact ha pins s1 σ f D g i|false=>exact hb pins s1 σ f D g i
end
noncomputable abbrev TG:=V->St->Hp->(St->Hp->Prop)->Prop
noncomputable abbrev TGs:=List V->St->Hp->(St->Hp->Prop)->Prop
noncomputable def PG(X:Cx)(target:Expr)(t:TG):Prop:=∀(pins:List (Addr×Obj))(s:Shared)(σ:St)(H:Hp)(v:V)(u:Value)(Q:St->Hp->Prop),Inv X pins σ H s->RelV v u->t v σ H Q->wpAny (model X.prog X.w) X.A (assign target X.env u) (λ_ s'=>∃a H',Inv X pins a H' s'/\Q a H') X.xe s
noncomputable def G0(X:Cx)(b:List Expr)(t:TGs):Prop:=∀(pins:List (Addr×Obj))(s:Shared)(σ:St)(H:Hp)(vs:List V)(us:List Value)(Q:St->Hp->Prop),Inv X pins σ H s->Vals vs us->t vs σ H Q->wpAny (model X.prog X.w) X.A (assignInOrder ((assignEach b X.env).map (·.2)) us) (λ_ s'=>∃a H',Inv X pins a H' s'/\Q a H') X.xe s
noncomputable abbrev Tq:=V->V->V->Hp->(Hp->Prop)->Prop
noncomputable def Xp(X:Cx)(t:Tq):Prop:=∀(pins:List (Addr×Obj))(s:Shared)(σ:St)(H:Hp)(o i v:V)(b a u:Value)(Q:Hp->Prop),Inv X pins σ H s->RelV o b->RelV i a->RelV v u->t o i v H Q->wpAny (model X.prog X.w) X.A (setItem b a u) (λ_ s'=>∃H',Inv X pins σ H' s'/\Q H') X.xe s
noncomputable abbrev YU:=V->V->Hp->VK->Prop
noncomputable def PIp(X:Cx)(op:Operator)(t:YU):Prop:=∀(pins:List (Addr×Obj))(s:Shared)(σ:St)(H:Hp)(x y:V)(v u:Value)(Q:VK),Inv X pins σ H s->RelV x v->RelV y u->t x y H Q->wpAny (model X.prog X.w) X.A (inplaceOp op v u) (EP X pins σ Q) X.xe s
section
variable{X:Cx}{pos:Pos}
noncomputable def il(i:Nat):TG:=λv σ H Q=>Q (σ.set i (some v)) H
theorem cL{i:Nat}{x:Str}(b:X.N.Nodup)(hi:X.N[i]?=some x)(d:Loc X.env.scope x)(c:X.fn x=true\/X.env.scope.names.lookup x=some .local:=by first|exact .inl rfl|exact .inr rfl|assumption):PG X (.Name x pos) (il i):=by intro pins s σ H v u Q I r h;exact wpAny_assign_Name (iC I b hi d r (λs' a=>⟨_,H,a,h⟩) c)
noncomputable def aaW(to d:TE)(t:Tq):TG:=λv σ H Q=>to σ H λo a=>d σ a λi b=>t o i v b λc=>Q σ c
theorem Jy{o i:Expr}{to d:TE}{t:Tq}(m:PE X o to)(hi:PE X i d)(n:Xp X t)(ha:∀v,assign (.Subscript o i pos) X.env v=(do let a<-holding [v] (eval o X.env);let b<-holding [v,a] (eval i X.env);standAt pos;holding [v,a,b] (setItem a b v);release [v,a,b] []):=by intro _;rfl):PG X (.Subscript o i pos) (aaW to d t):=by intro pins s σ H v u Q I r h;rw[ha];refine aw (wpAny_holding (bR (m pins s σ H _ I h) λa s1 c=>?_));obtain⟨x,e,j,z,p⟩:=c;refine aw (wpAny_holding (bR (hi pins s1 σ e _ j p) λb s2 c=>?_));obtain⟨y,f,k,A,q⟩:=c;refine aw (wpAny_standAt (aw (wpAny_holding (bR (n pins s2 σ f x y v a b u _ k z A r q) λ_ B c=>?_))));obtain⟨g,l,w⟩:=c;exact wpAny_release ⟨σ,g,l,w⟩
noncomputable def yx(b:TE)(g:TG):TS:=λD σ H=>b σ H λx a=>g x σ a D.nx
theorem IC{tg e:Expr}{a:TE}{g:TG}(d:PE X e a)(f:PG X tg g)(i:swapsWithSole [tg] e pos.line X.env=pure false:=by rfl)(hw:swappedStores [tg] e X.env=pure none:=by rfl)(h1:(assignEach [tg] X.env).map (·.2)=[assign tg X.env]:=by rfl):PS X (.Assign [tg] e pos) (yx a g):=by intro pins s σ H D I h;refine wpAny_Assign_stores (bR (d pins s σ H _ I h) λv s1 l=>?_) i hw;obtain⟨x,b,c,k,j⟩:=l;rw[h1];exact bR (f pins s1 σ b x v _ c k j) λ_ s2 q=>q
theorem aE{i:Nat}{x:Str}{e:Expr}{a:TE}{pos':Pos}(f:X.N.Nodup)(hi:X.N[i]?=some x)(l:Loc X.env.scope x)(g:PE X e a)(k:swapsWith e (some (.Name x pos')) pos.line X.env=pure false:=by rfl)(j:X.fn x=true\/X.env.scope.names.lookup x=some .local:=by first|exact .inl rfl|exact .inr rfl|assumption):PS X (.Assign [.Name x pos'] e pos) (yx a (il i)):=by intro pins s σ H D I h;refine wpAny_Assign_Name (bR (g pins s σ H _ I h) λv s1 o=>?_) k;obtain⟨y,b,c,n,m⟩:=o;exact iC c f hi l n (λs2 d=>⟨_,b,d,m⟩) j
noncomputable def aal(i:Nat)(c:TE)(d:YU):TS:=λD σ H=>∃x,σ[i]?=some (some x)/\c σ H λy a=>d x y a λz b=>D.nx (σ.set i (some z)) b
theorem yd{i:Nat}{x:Str}{e:Expr}{f:TE}{op:Operator}{g:YU}{pos':Pos}(A:X.N.Nodup)(hi:X.N[i]?=some x)(b:Loc X.env.scope x)(C:PE X e f)(F:PIp X op g)(E:X.fn x=true\/X.env.scope.names.lookup x=some .local:=by first|exact .inl rfl|exact .inr rfl|assumption):PS X (.AugAssign (.Name x pos') op e pos) (aal i f g):=by
 intro pins s σ H D I h;obtain⟨v,t,h⟩:=h;obtain⟨m,hn,hl⟩:=I.loc;have O:WG X.env.scope x:=by rcases b with k|k;exact .inl k;exact .inr (.inl k)
 obtain⟨u,r,l⟩:=hl i x v hi t O;refine wpAny_AugAssign_Name ?_;have go:wpAny (model X.prog X.w) X.A (eval e X.env) (λw M=>wpAny (model X.prog X.w) X.A (inplaceOp op u w) (λr N=>wpAny (model X.prog X.w) X.A (storeName X.env x r) (λ_=>SP X pins D .next) X.xe N) X.xe M) X.xe s:=by refine bR (C pins s σ H _ I h) λw s1 d=>?_;obtain⟨y,j,o,K,G⟩:=d;refine bR (F pins s1 σ j v y u w _ o r K G) λz s2 d=>?_;obtain⟨Q,n,p,L,J⟩:=d;exact iC p A hi b L (λP q=>⟨_,n,q,J⟩) E
 rcases l with⟨a,hm⟩|⟨a,c,hc,B⟩;·exact wpAny_loadName_local I.ok.kind a hn hm go
 ·rcases a with a|a;·exact wpAny_loadName_cell I.ok.kind a hc B go
  ·rcases b with k|k;·have :X.env.scope.names.lookup x=some .free:=a;rw[k]at this;cases this
   ·have :X.env.scope.names.lookup x=some .free:=a;rw[k]at this;cases this
noncomputable def ipI(f:Int->Int->Int):YU:=λx y H Q=>∃i j,x= .int i/\y= .int j/\Q (.int (f i j)) H
theorem yr:PIp X .Add (ipI λi j=>i+j):=by intro pins s σ H x y v u Q I c d h;obtain⟨i,j,a,b,q⟩:=h;subst a;subst b;obtain⟨t,rfl⟩:=c;obtain⟨t',rfl⟩:=d;exact iadd_int ⟨.int _,H,I.tok _,⟨_,rfl⟩,q⟩
end
section
variable{X:Cx}{pos:Pos}
noncomputable def Rn(c:TT)(tb:TS):TS:=λD σ H=>∃W:Nat->St->Hp->Prop,(∃m,W m σ H)/\∀m σ H,W m σ H->c σ H λb a=>if b=true then∃N:St->Hp->Prop,(∀e H',N e H'->∃d,d<m/\W d e H')/\tb {D with nx:=N,ct:=N,bk:=D.nx} σ a else D.nx σ a
theorem Hl{c:Expr}{body:List Stmt}{u:TT}{tb:TS}(t:PassesOwn (model X.prog X.w) X.A X.env X.xe)(hc:PT X c u)(hb:jx X body tb):PS X (.While c body [] pos) (Rn u tb):=by
 intro pins s σ H D I h;obtain⟨W,⟨y,w0⟩,turn⟩:=h;refine wpAny_While (codeAny_whileLoop (λn s'=>∃w H',Inv X pins w H' s'/\W n w H') ?_ y ⟨σ,H,I,w0⟩);rintro n s1⟨i,o,x,w1⟩;refine wpAny_passesOwn t (bR (hc pins s1 i o _ x (turn n i o w1)) λb s2 z=>?_);obtain⟨p,q,e⟩:=z;cases b with
  |true=>obtain⟨N,r,e⟩:=e;rw[if_pos rfl];refine wpAny_passesOwn t (bR (hb pins s2 i p _ q e) λf A g=>?_);cases f with|next=>obtain⟨d,a,j,l⟩:=g;obtain⟨k,hm,m⟩:=r d a l;exact⟨k,hm,d,a,j,m⟩|cont=>obtain⟨d,a,j,l⟩:=g;obtain⟨k,hm,m⟩:=r d a l;exact⟨k,hm,d,a,j,m⟩|brk=>exact g|ret v=>exact g
  |false=>rw[if_neg fw];exact wpAny_execs_nil ⟨i,p,q,e⟩
end
structure It where
 go:Nat->Hp->Prop
 uT:Nat->Hp->V->Hp->Prop
 stop:Nat->Hp->Prop
noncomputable def uj(X:Cx)(pins:List (Addr×Obj))(H:Hp)(b:Addr):Prop:=H b=none/\b≠X.env.locals/\b∉X.fs/\(b∈X.ex\/X.b4.heap.objs.size<=b)/\(∀x c,X.env.cells.lookup x=some c->c≠b)/\∀p∈X.pn++pins,p.1≠b
theorem Inv.Kp{X:Cx}{pins:List (Addr×Obj)}{σ:St}{H H':Hp}{s:Shared}{b:Addr}(I:Inv X pins σ H s)(hb:s.heap.objs.size<=b)(hn:H' b=none):uj X pins H' b:=by
 refine⟨hn,Nat.ne_of_gt (iu I.lt hb),I.aaN hb, .inr (dI I.sz hb),λx c e z=>?_,λp a z=>?_⟩;·obtain⟨v,q⟩:=I.cell x c e;exact absurd (iu q.lt (by rw[z];exact hb)) (Nat.lt_irrefl _)
 ·exact absurd (iu (bZ (I.pin p a).1) (by rw[z];exact hb)) (Nat.lt_irrefl _)
structure Turn(P:Program)(w:World)(K:PySem.W.Frag)(tg:Expr)(J:It)(fp:List Addr)(it:Addr)(tn:Nat->Heap->Prop):Prop where
 mem:it∈fp
 obj:∀i h,tn i h->∀b∈fp,∃o,h.get? b=some o/\∀v,o.data≠ .cell v
 keep:∀i h h',tn i h->(∀b∈fp,∀o,h.get? b=some o->h'.get? b=some o)->tn i h'
 item:∀(X:Cx),X.prog=P->X.w=w->X.K=K->X.calm=true->∀(i:Nat)(pins:List (Addr×Obj))(s:Shared)(σ:St)(H:Hp)(E:Value->Shared->Prop),Inv X pins σ H s->(∀b∈fp,uj X pins H b)->tn i s.heap->J.go i H->wpAny (model P w) X.A (pyNext (.ref it)) (λr s1=>∃u,r=some u/\wpAny (model P w) X.A (letOwnedTupleGo tg (.ref it) u) (λ_ s2=>∃x H',Inv X pins σ H' s2/\RelV x u/\J.uT i H x H'/\tn (i+1) s2.heap/\∀b∈fp,H' b=none) E s1) E s
 done:∀(X:Cx),X.prog=P->X.w=w->X.K=K->X.calm=true->∀(i:Nat)(pins:List (Addr×Obj))(s:Shared)(σ:St)(H:Hp)(E:Value->Shared->Prop),Inv X pins σ H s->(∀b∈fp,uj X pins H b)->tn i s.heap->J.stop i H->wpAny (model P w) X.A (pyNext (.ref it)) (λr s1=>r=none/\Inv X pins σ H s1) E s
 self:∀(A:Around)(i:Nat)(s:Shared)(Q:Value->Shared->Prop)(E:Value->Shared->Prop),tn i s.heap->Q (.ref it) s->wpAny (model P w) A (pyIter (.ref it)) Q E s
noncomputable abbrev TI:=St->Hp->(It->Hp->Prop)->Prop
noncomputable def PIE(X:Cx)(pins:List (Addr×Obj))(σ:St)(tg:Expr)(R:It->Hp->Prop)(a:Value)(s2:Shared):Prop:=∃(it:Addr)(fp:List Addr)(tn:Nat->Heap->Prop)(J:It)(H':Hp),a= .ref it/\Inv X pins σ H' s2/\Turn X.prog X.w X.K tg J fp it tn/\tn 0 s2.heap/\(∀b∈fp,uj X pins H' b)/\R J H'
noncomputable def PI(X:Cx)(tg iter:Expr)(a:TI):Prop:=∀(pins:List (Addr×Obj))(s:Shared)(σ:St)(H:Hp)(R:It->Hp->Prop),Inv X pins σ H s->a σ H R->wpAny (model X.prog X.w) X.A (eval iter X.env) (λv s1=>wpAny (model X.prog X.w) X.A (pyIter v) (PIE X pins σ tg R) X.xe s1) X.xe s
theorem A_{M:Model}{A:Around}{E:Value->Shared->Prop}{s:Shared}{tg:Expr}{it:Addr}{u:Value}{o:Obj}{n:String}{vs:Array Value}{Q:Unit->Shared->Prop}(b:s.heap.get? it=some o)(hc:o.cls= .type n)(hd:o.data= .fields vs)(hn:["enumerate","zip","dict_itemiterator","dict_reverseitemiterator","odict_iterator","itertools.zip_longest","itertools.pairwise"].contains n=false)(a:Q () s):wpAny M A (letOwnedTupleGo tg (.ref it) u) Q E s:=by unfold letOwnedTupleGo;cases tg<;>first|exact bf a|(cases u<;>first|exact bf a|(refine aw (wpAny_load b ?_);rw[hc,hd];show wpAny M A (if(["enumerate","zip","dict_itemiterator","dict_reverseitemiterator","odict_iterator","itertools.zip_longest","itertools.pairwise"].contains n&&vs[0]?==some (rawInt _))=true then _ else _) Q E s;rw[if_neg (by intro h;rw[hn,Bool.false_and]at h;cases h)];exact bf a))
noncomputable def Vz(K:PySem.W.Frag)(a:Addr):It:=⟨λi H=>∃xs x,bj K H a xs/\xs[i]?=some x,λi H x H'=>H'=H/\∀xs,bj K H a xs->xs[i]?=some x,λi H=>∃xs,bj K H a xs/\xs.length<=i⟩
noncomputable def Itt(K:PySem.W.Frag)(a:Addr):It:=⟨λi H=>∃xs x,gG K H a xs/\xs[i]?=some x,λi H x H'=>H'=H/\∀xs,gG K H a xs->xs[i]?=some x,λi H=>∃xs,gG K H a xs/\xs.length<=i⟩
noncomputable def TM(lo:Int)(n:Nat):It:=⟨λi _=>i<n,λi H x H'=>H'=H/\x= .int (lo+i),λi _=>n<=i⟩
theorem FP{P:Program}{w:World}{K:PySem.W.Frag}{tg:Expr}(a it:Addr):Turn P w K tg (Vz K a) [it] it (λi h=>h.IsListIter it a i)where
 mem:=by simp
 obj:=λi h st b hb=>by
  have e:b=it:=by simpa using hb
  subst e;obtain⟨o,e,c,d⟩:=st;exact⟨o,e,λv z=>by rw[d]at z;cases z⟩
 keep:=λi h h' st k=>st.at λo e=>k it (by simp) o e;item:=by intro X r hw q hc i pins s σ H E I j st t;subst r hw q;obtain⟨xs,x,hq,y⟩:=t;obtain⟨its,A,p,L⟩:=I.list hq;obtain⟨u,G,M⟩:=A.get y;obtain⟨l,m,F,f,n,g⟩:=j it (by simp);refine wpAny_pyNext_list_item st p.isList (x:=u) (by simpa using G) λh' B sb=>?_;have C:Inv X pins σ H {s with heap:=h'}:=I.turned (t':=s.toks) (λb o hb e=>(sb.2 b hb).trans e) l m f n g;obtain⟨o,e,c,d⟩:=id B;exact⟨u,rfl,A_ (s:={s with heap:=h'}) e c d (by decide) ⟨x,H,C,M,⟨rfl,λys J=>by rw[I.AI J hq];exact y⟩,B,λb hb=>(j b hb).1⟩⟩
 done:=by intro X r hw q hc i pins s σ H E I j st t;subst r hw q;obtain⟨xs,hq,y⟩:=t;obtain⟨its,A,p,L⟩:=I.list hq;obtain⟨l,m,F,f,n,g⟩:=j it (by simp);have hl:=A.length;exact jw (I.hb hc) (I.YJ hc f g) st p.isList (by simp;lia) λh' D=>⟨rfl,I.turned (t':=s.toks) (λb o hb e=>D b o hb e) l m f n g⟩
 self:=λ_ _ _ _ _ st h=>wpAny_pyIter_listiter st h
theorem Bx{P:Program}{w:World}{K:PySem.W.Frag}{tg:Expr}(a it:Addr):Turn P w K tg (Itt K a) [it] it (λi h=>h.IsTupleIter it a i)where
 mem:=by simp
 obj:=λi h st b hb=>by
  have e:b=it:=by simpa using hb
  subst e;obtain⟨o,e,c,d⟩:=st;exact⟨o,e,λv z=>by rw[d]at z;cases z⟩
 keep:=λi h h' st k=>st.at λo e=>k it (by simp) o e;item:=by intro X r hw q hc i pins s σ H E I j st t;subst r hw q;obtain⟨xs,x,hq,y⟩:=t;obtain⟨its,A,p,L⟩:=I.tuple hq;obtain⟨u,G,M⟩:=A.get y;obtain⟨l,m,F,f,n,g⟩:=j it (by simp);refine wpAny_pyNext_tuple_item st (show s.heap.IsTuple a its.toArray from p) (x:=u) (by simpa using G) λh' B sb=>?_;have C:Inv X pins σ H {s with heap:=h'}:=I.turned (t':=s.toks) (λb o hb e=>(sb.2 b hb).trans e) l m f n g;obtain⟨o,e,c,d⟩:=id B;exact⟨u,rfl,A_ (s:={s with heap:=h'}) e c d (by decide) ⟨x,H,C,M,⟨rfl,λys J=>by rw[I.Gf J hq];exact y⟩,B,λb hb=>(j b hb).1⟩⟩
 done:=by intro X r hw q hc i pins s σ H E I j st t;subst r hw q;obtain⟨xs,hq,y⟩:=t;obtain⟨its,A,p,L⟩:=I.tuple hq;obtain⟨l,m,F,f,n,g⟩:=j it (by simp);have hl:=A.length;exact next_tuple_end (I.hb hc) (I.YJ hc f g) st (show s.heap.IsTuple a its.toArray from p) (by simp;lia) λh' D=>⟨rfl,I.turned (t':=s.toks) (λb o hb e=>D b o hb e) l m f n g⟩
 self:=λ_ _ _ _ _ st h=>wpAny_pyIter_tupleiter st h
theorem Bm{P:Program}{w:World}{K:PySem.W.Frag}{tg:Expr}(it:Addr)(lo:Int)(n:Nat):Turn P w K tg (TM lo n) [it] it (λi h=>IsRangeIter h it (lo+(i:Nat)*1) ((n:Int)-(i:Nat)) 1)where
 mem:=by simp
 obj:=λi h st b hb=>by
  have e:b=it:=by simpa using hb
  subst e;exact⟨_,st,λv z=>by have B:Data.fields _=Data.cell v:=z;cases B⟩
 keep:=λi h h' st k=>k it (by simp) _ st;item:=by intro X m hw l hc i pins s σ H E I a st p;subst m hw l;obtain⟨c,d,x,f,g,j⟩:=a it (by simp);refine BD p st λv h' tk y q A=>?_;obtain⟨t,rfl⟩:=y;have r:Inv X pins σ H {s with heap:=h',toks:=tk}:=I.turned (λb o hb e=>A b o (by simpa using hb) e) c d f g j;refine⟨_,rfl,A_ (s:={s with heap:=h',toks:=tk}) (n:="range_iterator") q rfl rfl (by decide) ⟨.int (lo+i),H,r,⟨t,?_⟩,⟨rfl,rfl⟩,q,λb hb=>(a b hb).1⟩⟩;rw[Int.mul_one]
 done:=by intro X m hw l hc i pins s σ H E I a st p;subst m hw l;obtain⟨c,d,x,f,g,j⟩:=a it (by simp);exact sU (I.hb hc) st (by have :n<=i:=p;lia) λh' u=>⟨rfl,I.turned (t':=s.toks) (λb o hb e=>u b o hb e) c d f g j⟩
 self:=λ_ _ _ _ _ st h=>wpAny_pyIter_rangeiter st h
section
variable{X:Cx}{tg:Expr}
noncomputable def XT(K:PySem.W.Frag)(c:TE):TI:=λσ H R=>c σ H λx b=>∃a,x= .ref a/\(∃xs,bj K b a xs)/\R (Vz K a) b
noncomputable def aaO(K:PySem.W.Frag)(c:TE):TI:=λσ H R=>c σ H λx b=>∃a,x= .ref a/\(∃xs,gG K b a xs)/\R (Itt K a) b
theorem yg{l:Expr}{d:TE}(hl:PE X l d):PI X tg l (XT X.K d):=by
 intro pins s σ H R I h;refine bR (hl pins s σ H _ I h) λv s1 j=>?_;obtain⟨x,f,c,i,g⟩:=j;obtain⟨a,e,⟨xs,hq⟩,q⟩:=g;subst e;cases i;obtain⟨its,m,p,k⟩:=c.list hq;refine wpAny_pyIter_list p.isList ?_;refine⟨s1.heap.objs.size,[s1.heap.objs.size],_,_,f,rfl,c.kept (t':=s1.toks) λb o e=>cW _ e,FP a _,⟨_,gU _ rfl,rfl,rfl⟩,λb hb=>?_,q⟩;have e:b=s1.heap.objs.size:=by simpa using hb
 subst e;exact c.Kp (bB _) (c.cI.fresh (bB _))
theorem RR{l:Expr}{d:TE}(hl:PE X l d):PI X tg l (aaO X.K d):=by
 intro pins s σ H R I h;refine bR (hl pins s σ H _ I h) λv s1 j=>?_;obtain⟨x,f,c,i,g⟩:=j;obtain⟨a,e,⟨xs,hq⟩,q⟩:=g;subst e;cases i;obtain⟨its,m,p,k⟩:=c.tuple hq;refine wpAny_pyIter_tuple (show s1.heap.IsTuple a its.toArray from p) ?_;refine⟨s1.heap.objs.size,[s1.heap.objs.size],_,_,f,rfl,c.kept (t':=s1.toks) λb o e=>cW _ e,Bx a _,⟨_,gU _ rfl,rfl,rfl⟩,λb hb=>?_,q⟩;have e:b=s1.heap.objs.size:=by simpa using hb
 subst e;exact c.Kp (bB _) (c.cI.fresh (bB _))
theorem Aa{pins:List (Addr×Obj)}{σ:St}{H:Hp}{s:Shared}{R:It->Hp->Prop}{E:Value->Shared->Prop}{lo hi:Int}{t u v:Tok}{tk:Nat}(I:Inv X pins σ H s)(h1:-(2^62)<=lo)(h2:lo<2^62)(h3:-(2^62)<=hi)(h4:hi<2^62)(q:R (TM lo (hi-lo).toNat) H):wpAny (model X.prog X.w) X.A (pyIter (.ref s.heap.objs.size)) (PIE X pins σ tg R) E {s with heap:=s.heap.push {cls:= .type "range",data:= .fields #[.int lo t, .int hi u, .int 1 v]},toks:=tk}:=by
 refine wpAny_pyIter_range (IsRange.new ..) (small_one h1 h2 h3 h4) ?_;have a:Inv X pins σ H {s with heap:=s.heap.push {cls:= .type "range",data:= .fields #[.int lo t, .int hi u, .int 1 v]},toks:=tk}:=I.kept λb o e=>cW _ e;refine⟨(s.heap.push {cls:= .type "range",data:= .fields #[.int lo t, .int hi u, .int 1 v]}).objs.size,[(s.heap.push {cls:= .type "range",data:= .fields #[.int lo t, .int hi u, .int 1 v]}).objs.size],_,_,H,rfl,a.kept (t':=tk) λb o e=>cW _ e,Bm _ lo (hi-lo).toNat,?_,λb hb=>?_,q⟩
 ·have c:lo+((0:Nat):Int)*1=lo:=by simp
  have d:(((hi-lo).toNat:Nat):Int)-((0:Nat):Int)=Builtin.Range.rangeSize lo hi 1:=by rw[rangeSize_one];split<;>lia
  show IsRangeIter _ _ (lo+((0:Nat):Int)*1) ((((hi-lo).toNat:Nat):Int)-((0:Nat):Int)) 1;rw[c,d];exact gU _ rfl
 ·have e:b=(s.heap.push {cls:= .type "range",data:= .fields #[.int lo t, .int hi u, .int 1 v]}).objs.size:=by simpa using hb
  subst e;exact a.Kp (bB _) (a.cI.fresh (bB _))
noncomputable def XX(b:TA):TI:=λσ H R=>b σ H λvs a=>∃j:Int,vs=[.int j]/\-(2^62)<=j/\j<2^62/\R (TM 0 j.toNat) a
noncomputable def X_(b:TA):TI:=λσ H R=>b σ H λvs a=>∃i j:Int,vs=[.int i, .int j]/\(-(2^62)<=i/\i<2^62/\-(2^62)<=j/\j<2^62)/\R (TM i (j-i).toNat) a
theorem eN{a:Expr}{d:TA}{p c:Pos}(g:Gl X "range")(hm:X.mg "range"=none)(ha:PA X [a] d)(i:starEach [a] X.env=[(false,eval a X.env)]:=by rfl):PI X tg (.Call (.Name "range" p) [a] [] c) (XX d):=by intro pins s σ H R I h;refine Call_ (jS I g hm boot_range (PyProof.Rows.callWith_type1 (bR (ha c pins s σ H _ I h) λus s1 n=>?_) i rfl));obtain⟨vs,o,f,l,b⟩:=n;obtain⟨j,e,b,k,q⟩:=b;subst e;cases l with|cons r m=>cases m;obtain⟨t,rfl⟩:=r;exact call_range_1 (Aa f (by lia) (by lia) b k (by simpa using q))
theorem vY{a b:Expr}{k:TA}{p g:Pos}(m:Gl X "range")(hm:X.mg "range"=none)(ha:PA X [a,b] k)(n:starEach [a,b] X.env=[(false,eval a X.env),(false,eval b X.env)]:=by rfl)(f:starEach [b] X.env=[(false,eval b X.env)]:=by rfl):PI X tg (.Call (.Name "range" p) [a,b] [] g) (X_ k):=by intro pins s σ H R I h;refine Call_ (jS I m hm boot_range (PyProof.Rows.callWith_type1 (bR (ha g pins s σ H _ I h) λus s1⟨vs,y,l,x,c⟩=>?_) (by rw[n,f]) (by rw[f];rfl)));obtain⟨i,j,e,⟨c,o,u,v⟩,q⟩:=c;subst e;cases x with|cons r d=>cases d with|cons w d=>cases d;obtain⟨t,rfl⟩:=r;obtain⟨t',rfl⟩:=w;exact call_range_2 (Aa l c o u v q)
noncomputable def aaL(e:TI)(g:TG)(tb:TS):TS:=λD σ H=>e σ H λJ c=>∃W:Nat->Nat->St->Hp->Prop,(∃m,W 0 m σ c)/\∀i m σ H,W i m σ H->(J.stop i H/\D.nx σ H)\/(J.go i H/\∃N:St->Hp->Prop,(∀b H',N b H'->∃a,a<m/\W (i+1) a b H')/\∀x H',J.uT i H x H'->g x σ H' λf d=>tb {D with nx:=N,ct:=N,bk:=D.nx} f d)
noncomputable def ly(fp:List Addr)(h:Heap):List (Addr×Obj):=fp.filterMap λb=>(h.get? b).map λo=>(b,o)
theorem eI{fp:List Addr}{h:Heap}{b:Addr}{o:Obj}(hb:b∈fp)(e:h.get? b=some o):(b,o)∈ly fp h:=List.mem_filterMap.mpr ⟨b,hb,by rw[e];rfl⟩
theorem FQ{fp:List Addr}{h:Heap}{p:Addr×Obj}(c:p∈ly fp h):p.1∈fp/\h.get? p.1=some p.2:=by obtain⟨b,hb,e⟩:=List.mem_filterMap.mp c;cases q:h.get? b with|none=>rw[q]at e;cases e|some o=>rw[q]at e;have a:(b,o)=p:=Option.some.inj e;subst a;exact⟨hb,q⟩
theorem Inv.pinned{pins:List (Addr×Obj)}{σ:St}{H:Hp}{s:Shared}{fp:List Addr}(I:Inv X pins σ H s)(h:∀b∈fp,uj X pins H b)(i:∀b∈fp,∃o,s.heap.get? b=some o/\∀v,o.data≠ .cell v):Inv X (pins++ly fp s.heap) σ H s:=I.oR λp j=>(List.mem_append.mp j).elim (λz=>I.pin p (gP _ z)) λz=>by obtain⟨hb,e⟩:=FQ z;obtain⟨c,f,g,_⟩:=h p.1 hb;obtain⟨o,a,d⟩:=i p.1 hb;rw[e]at a;cases a;exact⟨e,c,f,g,d⟩
theorem Inv.iP{pins pl:List (Addr×Obj)}{σ:St}{H:Hp}{s:Shared}(I:Inv X (pins++pl) σ H s):Inv X pins σ H s:=I.oR λp a=>I.pin p (gP _ (kP _ a))
theorem h_{iter:Expr}{body:List Stmt}{P:TI}{g:TG}{tb:TS}{pos:Pos}(p:PassesOwn (model X.prog X.w) X.A X.env X.xe)(hc:X.calm=true)(hi:PI X tg iter P)(hg:PG X tg g)(hb:jx X body tb)(hs:∀x,foldedSetIterable iter X.env x=pure x:=by intro _;rfl):PS X (.For tg iter body [] pos) (aaL P g tb):=by
 intro pins s σ H D I h;refine wpAny_For (bR (hi pins s σ H _ I h) λv s1 h1=>bR h1 λYu s2 h2=>?_) hs;obtain⟨it,fp,tn,J,Q,e,S,T,Tr,G,W,⟨m0,w0⟩,turn⟩:=h2;subst e;have C:∀{H':Hp},(∀b∈fp,H' b=none)->∀b∈fp,uj X pins H' b:=λhn b hb=>⟨hn b hb,(G b hb).2⟩;refine codeAny_forLoop_any (λn s'=>∃i t H',Inv X pins t H' s'/\tn i s'.heap/\(∀b∈fp,H' b=none)/\W i n t H') ?_ m0 ⟨0,σ,Q,S,Tr,λb hb=>(G b hb).1,w0⟩;rintro n L⟨i,w,y,F,O,K,w3⟩;rcases turn i n w y w3 with⟨stop,qn⟩|⟨go,N,hN,step⟩;·refine wpAny_passesOwn p (bR (T.done X rfl rfl rfl hc i pins L w y X.xe F (C K) O stop) λr s4 l=>?_);obtain⟨z,U⟩:=l;subst z;exact wpAny_execs_nil ⟨w,y,U,qn⟩
 ·refine wpAny_passesOwn p (bR (T.item X rfl rfl rfl hc i pins L w y X.xe F (C K) O go) λr s4 l=>?_);obtain⟨u,z,h4⟩:=l;subst z;refine wpAny_passesOwn p (bR h4 λ_ M l=>?_);obtain⟨x,E,V,r5,y5,B,TQ⟩:=l;have Y:=V.pinned (C TQ) (T.obj _ _ B);refine wpAny_passesOwn p (bR (hg _ M w E x u _ Y r5 (step x E y5)) λ_ s6 l=>?_);obtain⟨σ6,R,Z,q6⟩:=l;refine wpAny_passesOwn p (bR (hb _ s6 σ6 R _ Z q6) λf A k=>?_);have again:∀{j:St}{a:Hp},Inv X (pins++ly fp M.heap) j a A->N j a->∃m,m<n/\∃i t H',Inv X pins t H' A/\tn i A.heap/\(∀b∈fp,H' b=none)/\W i m t H':=λ{j a}c q=>by obtain⟨m',hm,w7⟩:=hN j a q;refine⟨m',hm,i+1,j,a,c.iP,T.keep _ _ _ B λb hb o e=>(c.pin (b,o) (gP _ (gP _ (eI hb e)))).1,λb hb=>?_,w7⟩;obtain⟨o,e,d⟩:=T.obj _ _ B b hb;exact(c.pin (b,o) (gP _ (gP _ (eI hb e)))).2.1
  cases f with|next=>obtain⟨j,a,c,q⟩:=k;exact again c q|cont=>obtain⟨j,a,c,q⟩:=k;exact again c q|brk=>obtain⟨j,a,c,k⟩:=k;exact⟨j,a,c.iP,k⟩|ret v=>obtain⟨x7,j,a,c,r7,k⟩:=k;exact⟨x7,j,a,c.iP,r7,k⟩
end
theorem JL{K:PySem.W.Frag}{a:Addr}{xs:List V}{g:TG}{tb:TS}{D:Ends}{σ:St}{H:Hp}(Pv:Nat->St->Hp->Prop)(j:Pv 0 σ H)(hl:∀i σ H,i<=xs.length->Pv i σ H->bj K H a xs)(k:∀i x σ H,xs[i]?=some x->Pv i σ H->g x σ H λd b=>tb {D with nx:=Pv (i+1),ct:=Pv (i+1),bk:=D.nx} d b)(hd:∀σ H,Pv xs.length σ H->D.nx σ H):∃W:Nat->Nat->St->Hp->Prop,(∃m,W 0 m σ H)/\∀i m σ H,W i m σ H->((Vz K a).stop i H/\D.nx σ H)\/((Vz K a).go i H/\∃N:St->Hp->Prop,(∀c H',N c H'->∃h,h<m/\W (i+1) h c H')/\∀x H',(Vz K a).uT i H x H'->g x σ H' λd b=>tb {D with nx:=N,ct:=N,bk:=D.nx} d b):=by
 refine⟨λi m σ H=>m=xs.length-i/\i<=xs.length/\Pv i σ H,⟨xs.length,by simp,fV _,j⟩,?_⟩;rintro i m σ H⟨rfl,hi,p⟩;have q:=hl i σ H hi p;by_cases f:i<xs.length;·refine .inr ⟨⟨xs,xs[i],q,by simp[f]⟩,Pv (i+1),λc H' l=>⟨xs.length-(i+1),by lia,rfl,f,l⟩,λx H' y=>?_⟩;obtain⟨e,y⟩:=y;subst e;exact k i x σ _ (y xs q) p
 ·have e:i=xs.length:=by lia
  subst e;exact .inl ⟨⟨xs,q,bB _⟩,hd σ H p⟩
theorem GD{lo:Int}{n:Nat}{g:TG}{tb:TS}{D:Ends}{σ:St}{H:Hp}(Pv:Nat->St->Hp->Prop)(h:Pv 0 σ H)(j:∀i σ H,i<n->Pv i σ H->g (.int (lo+i)) σ H λd a=>tb {D with nx:=Pv (i+1),ct:=Pv (i+1),bk:=D.nx} d a)(hd:∀σ H,Pv n σ H->D.nx σ H):∃W:Nat->Nat->St->Hp->Prop,(∃m,W 0 m σ H)/\∀i m σ H,W i m σ H->((TM lo n).stop i H/\D.nx σ H)\/((TM lo n).go i H/\∃N:St->Hp->Prop,(∀c H',N c H'->∃f,f<m/\W (i+1) f c H')/\∀x H',(TM lo n).uT i H x H'->g x σ H' λd a=>tb {D with nx:=N,ct:=N,bk:=D.nx} d a):=by
 refine⟨λi m σ H=>m=n-i/\i<=n/\Pv i σ H,⟨n,by simp,fV _,h⟩,?_⟩;rintro i m σ H⟨rfl,hi,p⟩;by_cases b:i<n;·refine .inr ⟨b,Pv (i+1),λc H' k=>⟨n-(i+1),by lia,rfl,b,k⟩,λx H' y=>?_⟩;obtain⟨e,y⟩:=y;subst e y;exact j i σ _ b p
 ·have e:i=n:=by lia
  subst e;exact .inl ⟨bB _,hd σ H p⟩
noncomputable abbrev R2:=V->V->Hp->VK->Prop
noncomputable def jo(X:Cx)(f:Value->Value->Sem Value)(r:R2):Prop:=∀(pins:List (Addr×Obj))(s:Shared)(σ:St)(H:Hp)(x y:V)(v u:Value)(Q:VK),Inv X pins σ H s->RelV x v->RelV y u->r x y H Q->wpAny (model X.prog X.w) X.A (f v u) (EP X pins σ Q) X.xe s
noncomputable def UnR(X:Cx)(f:Value->Sem Value)(r:V->Hp->VK->Prop):Prop:=∀(pins:List (Addr×Obj))(s:Shared)(σ:St)(H:Hp)(x:V)(v:Value)(Q:VK),Inv X pins σ H s->RelV x v->r x H Q->wpAny (model X.prog X.w) X.A (f v) (EP X pins σ Q) X.xe s
noncomputable def fA(X:Cx)(f:Value)(r:List V->Hp->VK->Prop):Prop:=∀(pins:List (Addr×Obj))(s:Shared)(σ:St)(H:Hp)(xs:List V)(us:List Value)(Q:VK),Inv X pins σ H s->Vals xs us->r xs H Q->wpAny (model X.prog X.w) X.A (call f us) (EP X pins σ Q) X.xe s
noncomputable def fJ(r:R2)(c tb:TE):TE:=λσ H Q=>c σ H λx a=>tb σ a λy b=>r x y b Q
noncomputable def tUn(r:V->Hp->VK->Prop)(b:TE):TE:=λσ H Q=>b σ H λx a=>r x a Q
noncomputable def rI(C:Int->Int->Prop)(g:Int->Int->V):R2:=λx y H Q=>∃i j,x= .int i/\y= .int j/\C i j/\Q (g i j) H
noncomputable def GJ(g:Int->Int->V):R2:=λx y H Q=>∃i j,x= .int i/\y= .int j/\Q (g i j) H
noncomputable def rU(g:Int->V):V->Hp->VK->Prop:=λx H Q=>∃i,x= .int i/\Q (g i) H
section
variable{X:Cx}{a b c:Expr}{ta tb tc:TE}{pos:Pos}
theorem Qs(ha:PE X a ta)(hb:PE X b tb){pins:List (Addr×Obj)}{s:Shared}{σ:St}{H:Hp}{R:V->V->Hp->Prop}(I:Inv X pins σ H s)(h:ta σ H λx e=>tb σ e λy d=>R x y d){Q:Value->Shared->Prop}{f:Value->Value->Sem Value}(k:∀v u s2 x y d,Inv X pins σ d s2->RelV x v->RelV y u->R x y d->wpAny (model X.prog X.w) X.A (f v u) Q X.xe s2):wpAny (model X.prog X.w) X.A (eval a X.env) (λv p=>wpAny (model X.prog X.w) X.A (eval b X.env) (λu q=>wpAny (model X.prog X.w) X.A (f v u) Q X.xe q) X.xe p) X.xe s:=by refine bR (ha pins s σ H _ I h) λv s1 g=>?_;obtain⟨x,e,i,n,l⟩:=g;refine bR (hb pins s1 σ e _ i l) λu s2 g=>?_;obtain⟨y,d,j,o,m⟩:=g;exact k v u s2 x y d j n o m
theorem ay{op:Operator}{r:R2}(f:jo X (binaryOp op) r)(ha:PE X a ta)(hb:PE X b tb):PE X (.BinOp a op b pos) (fJ r ta tb):=by intro pins s σ H Q I h;exact wpAny_BinOp (Qs ha hb I h λv u s2 x y d e g i q=>f pins s2 σ d x y v u Q e g i q)
theorem Ib{op:UnaryOp}{r:V->Hp->VK->Prop}(f:UnR X (unaryOp op) r)(ha:PE X a ta):PE X (.UnaryOp op a pos) (tUn r ta):=by intro pins s σ H Q I h;exact UnaryOp_ (bR (ha pins s σ H _ I h) λv s1⟨x,d,e,i,g⟩=>f pins s1 σ d x v Q e i g)
theorem opI{f:Value->Value->Sem Value}{C:Int->Int->Prop}{g:Int->Int->Int}(rule:∀(i j:Int)(t u:Tok)(s:Shared)(Q:Value->Shared->Prop)(E:Value->Shared->Prop),C i j->Q (.int (g i j) s.toks) {s with toks:=s.toks+1}->wpAny (model X.prog X.w) X.A (f (.int i t) (.int j u)) Q E s):jo X f (rI C λi j=> .int (g i j)):=by intro pins s σ H x y v u Q I d e h;obtain⟨i,j,rfl,rfl,hc,q⟩:=h;obtain⟨t,rfl⟩:=d;obtain⟨t',rfl⟩:=e;exact rule i j t t' s _ _ hc ⟨.int (g i j),H,I.tok _,⟨_,rfl⟩,q⟩
theorem Yl{f:Value->Value->Sem Value}{g:Int->Int->Int}(rule:∀(i j:Int)(t u:Tok)(s:Shared)(Q:Value->Shared->Prop)(E:Value->Shared->Prop),Q (.int (g i j) s.toks) {s with toks:=s.toks+1}->wpAny (model X.prog X.w) X.A (f (.int i t) (.int j u)) Q E s):jo X f (GJ λi j=> .int (g i j)):=by intro pins s σ H x y v u Q I d e h;obtain⟨i,j,rfl,rfl,q⟩:=h;obtain⟨t,rfl⟩:=d;obtain⟨t',rfl⟩:=e;exact rule i j t t' s _ _ ⟨.int (g i j),H,I.tok _,⟨_,rfl⟩,q⟩
theorem Mk{f:Value->Value->Sem Value}{g:Int->Int->Bool}(rule:∀(i j:Int)(t u:Tok)(s:Shared)(Q:Value->Shared->Prop)(E:Value->Shared->Prop),Q (.bool (g i j)) s->wpAny (model X.prog X.w) X.A (f (.int i t) (.int j u)) Q E s):jo X f (GJ λi j=> .bl (g i j)):=by intro pins s σ H x y v u Q I d e h;obtain⟨i,j,rfl,rfl,q⟩:=h;obtain⟨t,rfl⟩:=d;obtain⟨t',rfl⟩:=e;exact rule i j t t' s _ _ ⟨.bl (g i j),H,I,rfl,q⟩
def U9(i j:Int):Prop:=0<j/\j<1073741824
def Ti(i j:Int):Prop:=(-(2^64)<i/\i<2^64)\/(-(2^64)<j/\j<2^64)
theorem Ti.ok{i j:Int}(h:Ti i j):IntMulOk i j:=by
 rcases h with⟨h1,h2⟩|⟨h1,h2⟩;·exact .of_left (intBits_le_64 h1 h2)
 ·exact .of_right (intBits_le_64 h1 h2)
theorem dz:jo X (binaryOp .Add) (GJ λi j=> .int (i+j)):=Yl λ_ _ _ _ _ _ _ q=>add_int q
theorem iO:jo X (binaryOp .Sub) (GJ λi j=> .int (i-j)):=Yl λ_ _ _ _ _ _ _ q=>sub_int q
theorem TU:jo X (binaryOp .Mult) (rI Ti λi j=> .int (i*j)):=opI λ_ _ _ _ _ _ _ hc q=>mul_int q hc.ok
theorem bE:jo X (binaryOp .FloorDiv) (rI U9 λi j=> .int (i/j)):=opI λi j _ _ _ _ _ hc q=>by have h1:(0:Int)<j:=hc.1;have h2:j<1073741824:=hc.2;exact floordiv_int (by lia) (by rw[Int.fdiv_eq_ediv_of_nonneg i (by lia)];exact q) (.inl (PyProof.noPylong_small (by lia)))
theorem bu:jo X (binaryOp .Mod) (rI (λ_ j=>0<j) λi j=> .int (i%j)):=opI λi j _ _ _ _ _ hc q=>by have h1:(0:Int)<j:=hc;exact mod_int' (by lia) (by rw[Int.fmod_eq_emod_of_nonneg i (by lia)];exact q)
theorem unI{f:Value->Sem Value}{g:Int->Int}(rule:∀(i:Int)(t:Tok)(s:Shared)(Q:Value->Shared->Prop)(E:Value->Shared->Prop),Q (.int (g i) s.toks) {s with toks:=s.toks+1}->wpAny (model X.prog X.w) X.A (f (.int i t)) Q E s):UnR X f (rU λi=> .int (g i)):=by intro pins s σ H x v Q I d h;obtain⟨i,rfl,q⟩:=h;obtain⟨t,rfl⟩:=d;exact rule i t s _ _ ⟨.int (g i),H,I.tok _,⟨_,rfl⟩,q⟩
theorem Bo:UnR X (unaryOp .USub) (rU λi=> .int (-i)):=unI λ_ _ _ _ _ q=>neg_int q
end
noncomputable def XS:V->V->Bool| .bU, .bU=>true| .bU, .int _=>true| .int _, .bU=>true| .bU, .bl _=>true| .bl _, .bU=>true| .bU, .str _=>true| .str _, .bU=>true| .int _, .int _=>true| .bl _, .bl _=>true| .str _, .str _=>true| .GC _, .GC _=>true| .int _, .str _=>true| .str _, .int _=>true| .bl _, .str _=>true| .str _, .bl _=>true|_,_=>false
noncomputable def US:R2:=λx y H Q=>XS x y=true/\Q (.bl (decide (x=y))) H
noncomputable def rNe:R2:=λx y H Q=>XS x y=true/\Q (.bl (!decide (x=y))) H
theorem C6{i j:Int}:decide (V.int i=V.int j)=(i==j):=by rw[Bool.eq_iff_iff];simp
theorem HE{i j:Bool}:decide (V.bl i=V.bl j)=(i==j):=by rw[Bool.eq_iff_iff];simp
theorem Em{i j:Str}:decide (V.str i=V.str j)=(i==j):=by rw[Bool.eq_iff_iff];simp
theorem EK{i j:Array UInt8}:decide (V.GC i=V.GC j)=(i.toList==j.toList):=by rw[Bool.eq_iff_iff];cases i;cases j;simp
section
variable{X:Cx}{a b c:Expr}{ta tb tc:TE}{pos:Pos}
theorem bw{pins:List (Addr×Obj)}{σ:St}{H:Hp}{s:Shared}{Q:VK}{k d:Bool}(I:Inv X pins σ H s)(q:Q (.bl k) H)(e:k=d):EP X pins σ Q (.bool d) s:=by subst e;exact⟨.bl k,H,I,rfl,q⟩
theorem aN:jo X (compareOp .Eq) US:=by
 intro pins s σ H x y v u Q I f d h;obtain⟨e,q⟩:=h;cases x with
  |bU=>cases f;cases y with|bU=>cases d;exact PySem.EqNone.eq_none_none (bw I q (by simp))|bl j=>cases d;exact PySem.EqNone.eq_none_bool (bw I q (by simp))|int j=>obtain⟨t',rfl⟩:=d;exact PySem.EqNone.eq_none_int (bw I q (by simp))|str j=>obtain⟨t',rfl⟩:=d;exact PySem.EqNone.eq_none_str (bw I q (by simp))|_=>exact absurd (show false=true from e) fw
  |bl i=>cases f;cases y with|bU=>cases d;exact PySem.EqNone.eq_bool_none (bw I q (by simp))|bl j=>cases d;exact eq_bool (bw I q HE)|str j=>obtain⟨t',rfl⟩:=d;exact PySem.EqMixed.eq_bool_str (bw I q (by simp))|_=>exact absurd (show false=true from e) fw
  |int i=>obtain⟨t,rfl⟩:=f;cases y with|bU=>cases d;exact PySem.EqNone.eq_int_none (bw I q (by simp))|int j=>obtain⟨t',rfl⟩:=d;exact eq_int (bw I q C6)|str j=>obtain⟨t',rfl⟩:=d;exact PySem.EqMixed.eq_int_str (bw I q (by simp))|_=>exact absurd (show false=true from e) fw
  |str i=>obtain⟨t,rfl⟩:=f;cases y with|bU=>cases d;exact PySem.EqNone.eq_str_none (bw I q (by simp))|bl j=>cases d;exact PySem.EqMixed.eq_str_bool (bw I q (by simp))|int j=>obtain⟨t',rfl⟩:=d;exact PySem.EqMixed.eq_str_int (bw I q (by simp))|str j=>obtain⟨t',rfl⟩:=d;exact eq_str (bw I q Em)|_=>exact absurd (show false=true from e) fw
  |GC i=>obtain⟨t,rfl⟩:=f;cases y with|GC j=>obtain⟨t',rfl⟩:=d;exact PySem.W.eq_bytes (bw I q EK)|_=>exact absurd (show false=true from e) fw
  |_=>cases y<;>exact absurd (show false=true from e) fw
theorem OP:jo X (compareOp .NotEq) rNe:=by
 intro pins s σ H x y v u Q I f d h;obtain⟨e,q⟩:=h;cases x with
  |bU=>cases f;cases y with|bU=>cases d;exact PySem.EqNone.ne_none_none (bw I q (by simp))|bl j=>cases d;exact PySem.EqNone.ne_none_bool (bw I q (by simp))|int j=>obtain⟨t',rfl⟩:=d;exact PySem.EqNone.ne_none_int (bw I q (by simp))|str j=>obtain⟨t',rfl⟩:=d;exact PySem.EqNone.ne_none_str (bw I q (by simp))|_=>exact absurd (show false=true from e) fw
  |bl i=>cases f;cases y with|bU=>cases d;exact PySem.EqNone.ne_bool_none (bw I q (by simp))|bl j=>cases d;exact ne_bool (bw I q (congrArg not HE))|str j=>obtain⟨t',rfl⟩:=d;exact PySem.EqMixed.ne_bool_str (bw I q (by simp))|_=>exact absurd (show false=true from e) fw
  |int i=>obtain⟨t,rfl⟩:=f;cases y with|bU=>cases d;exact PySem.EqNone.ne_int_none (bw I q (by simp))|int j=>obtain⟨t',rfl⟩:=d;exact ne_int (bw I q (congrArg not C6))|str j=>obtain⟨t',rfl⟩:=d;exact PySem.EqMixed.ne_int_str (bw I q (by simp))|_=>exact absurd (show false=true from e) fw
  |str i=>obtain⟨t,rfl⟩:=f;cases y with|bU=>cases d;exact PySem.EqNone.ne_str_none (bw I q (by simp))|bl j=>cases d;exact PySem.EqMixed.ne_str_bool (bw I q (by simp))|int j=>obtain⟨t',rfl⟩:=d;exact PySem.EqMixed.ne_str_int (bw I q (by simp))|str j=>obtain⟨t',rfl⟩:=d;exact ne_str (bw I q (congrArg not Em))|_=>exact absurd (show false=true from e) fw
  |GC i=>obtain⟨t,rfl⟩:=f;cases y with|GC j=>obtain⟨t',rfl⟩:=d;exact PySem.W.ne_bytes (bw I q (congrArg not EK))|_=>exact absurd (show false=true from e) fw
  |_=>cases y<;>exact absurd (show false=true from e) fw
theorem Ei:jo X (compareOp .Lt) (GJ λi j=> .bl (decide (i<j))):=Mk λ_ _ _ _ _ _ _ q=>lt_int q
theorem IJ:jo X (compareOp .LtE) (GJ λi j=> .bl (decide (i<=j))):=Mk λ_ _ _ _ _ _ _ q=>le_int q
theorem mw:jo X (compareOp .Gt) (GJ λi j=> .bl (decide (j<i))):=Mk λ_ _ _ _ _ _ _ q=>gt_int q
theorem VZ:jo X (compareOp .GtE) (GJ λi j=> .bl (decide (j<=i))):=Mk λ_ _ _ _ _ _ _ q=>ge_int q
theorem wG:jo X (compareOp .In) (λx y H Q=>∃i j,x= .str i/\y= .str j/\Q (.bl (!(Builtin.Str.occurrences j i 0 j.length 1).isEmpty)) H):=by intro pins s σ H x y v u Q I d e h;obtain⟨i,j,rfl,rfl,q⟩:=h;obtain⟨t,rfl⟩:=d;obtain⟨t',rfl⟩:=e;exact in_str (bw I q rfl)
theorem Q1:jo X (compareOp .Is) (λx y H Q=>y= .bU/\Q (.bl (decide (x= .bU))) H):=by intro pins s σ H x y v u Q I d e h;obtain⟨rfl,q⟩:=h;cases e;refine is_none_gen (bw I q ?_);cases x<;>first|(cases d;rfl)|(obtain⟨t,rfl⟩:=d;rfl)
theorem MI:jo X (compareOp .IsNot) (λx y H Q=>y= .bU/\Q (.bl (!decide (x= .bU))) H):=by intro pins s σ H x y v u Q I d e h;obtain⟨rfl,q⟩:=h;cases e;refine isnot_none_gen (bw I q ?_);cases x<;>first|(cases d;rfl)|(obtain⟨t,rfl⟩:=d;rfl)
theorem az(b:Expr){op:CmpOp}(h:op≠ .In:=by decide)(h2:op≠ .NotIn:=by decide):behindInMarks op b=false:=by
 have d:(op==CmpOp.In)=false:=by cases op<;>first|rfl|exact absurd rfl h
 have e:(op==CmpOp.NotIn)=false:=by cases op<;>first|rfl|exact absurd rfl h2
 cases b<;>simp[behindInMarks,d,e]
theorem cM{op:CmpOp}{r:R2}(f:jo X (compareOp op) r)(ha:PE X a ta)(hb:PE X b tb)(hm:behindInMarks op b=false):PE X (.Compare a [op] [b] pos) (fJ r ta tb):=by intro pins s σ H Q I h;exact wpAny_Compare1 (Qs ha hb I h λv u s2 x y d e g i q=>f pins s2 σ d x y v u Q e g i q) hm
noncomputable def v_(t:TE):TT:=λσ H Q=>t σ H λx H'=>∃k,x= .bl k/\Q k H'
theorem ar{op:CmpOp}{r:R2}(m:jo X (compareOp op) r)(ha:PE X a ta)(hb:PE X b tb)(hm:behindInMarks op b=false):PT X (.Compare a [op] [b] pos) (v_ (fJ r ta tb)):=by intro pins s σ H Q I h;refine wpAny_isTrue_Compare1 (bR (ha pins s σ H _ I h) λv s1⟨x,d,i,q,n⟩=>bR (hb pins s1 σ d _ i n) λu s2⟨y,f,j,t,o⟩=>bR (m pins s2 σ f x y v u _ j q t o) λc A⟨z,g,l,w,k,e,p⟩=>?_) hm;subst e;cases w;exact wpAny_truthy_bool ⟨g,l,p⟩
noncomputable def R9(r h:R2)(ta tb tc:TE):TE:=λσ H Q=>ta σ H λx e=>tb σ e λy f=>r x y f λz d=>∃k,z= .bl k/\(if k=true then tc σ d λi g=>h y i g Q else Q (.bl false) d)
theorem HM{op f:CmpOp}{r l:R2}(E:jo X (compareOp op) r)(F:jo X (compareOp f) l)(ha:PE X a ta)(hb:PE X b tb)(hc:PE X c tc)(hm:lastMarks [op,f] [b,c]=false:=by with_unfolding_all rfl):PT X (.Compare a [op,f] [b,c] pos) (v_ (R9 r l ta tb tc)):=by intro pins s σ H Q I h;refine isTrue_chain (bR (ha pins s σ H _ I h) λv s1⟨x,n,t,N,J⟩=>test_link (bR (hb pins s1 σ n _ t J) λu s2⟨y,o,w,m,K⟩=>bR (E pins s2 σ o x y v u _ w N m K) λd S⟨z,g,i,O,k,e,j⟩=>?_)) hm;subst e;cases O;refine wpAny_truthy_bool ?_;cases k with|false=>obtain⟨Y,C,G⟩:=j;cases C;exact ite_ff ⟨g,i,G⟩|true=>refine ite_tt (test_last (bR (hc pins S σ g _ i j) λU T⟨V,p,A,P,L⟩=>bR (F pins T σ p y V u U _ A m P L) λd' Z W=>?_));obtain⟨z2,q,B,R,k2,D,M⟩:=W;subst D;cases R;exact wpAny_truthy_bool ⟨q,B,M⟩
theorem lM:(sizeLine:Nat)<2^63:=by rw[sizeLine_eq];decide
theorem cw:jo X (binaryOp .Add) (λx y H Q=>∃i j,x= .str i/\y= .str j/\i.length+j.length<=sizeLine/\Q (.str (i++j)) H):=by intro pins s σ H x y v u Q I e f h;obtain⟨i,j,rfl,rfl,d,q⟩:=h;obtain⟨t,rfl⟩:=e;obtain⟨t',rfl⟩:=f;exact add_str (λt' tk=>⟨.str (i++j),H,I.tok _,⟨_,rfl⟩,q⟩) d
theorem vals1{x:V}{us:List Value}(r:Vals [x] us):∃u,us=[u]/\RelV x u:=by cases r with|cons d e=>cases e;exact⟨_,rfl,d⟩
theorem lK:fA X (.type "int") (λxs H Q=>(∃i,xs=[.int i]/\Q (.int i) H)\/∃k,xs=[.bl k]/\Q (.int (if k then 1 else 0)) H):=by
 intro pins s σ H xs us Q I r h;rcases h with⟨i,rfl,q⟩|⟨k,rfl,q⟩;·obtain⟨u,rfl,t,rfl⟩:=vals1 r;exact call_int_int ⟨.int i,H,I,⟨_,rfl⟩,q⟩
 ·obtain⟨u,rfl,d⟩:=vals1 r;cases d;exact call_int_bool ⟨.int (if k then 1 else 0),H,I.tok _,⟨_,rfl⟩,q⟩
end
structure Bu(h:Heap)(x dx C:Addr)(mA:Str->Option Value):Prop where
 obj:h.get? x=some (PySem.W.instObj C dx)
 ns:h.Ns1 dx mA
 ne:dx≠x
theorem GI{h:Heap}{dx:Addr}{mA:Str->Option Value}(n:h.Ns1 dx mA):∃od,h.get? dx=some od/\∀name,PySem.W.lookIn name od=some (mA name):=by
 obtain⟨o,es,ep,f,hd,c,_,hm⟩:=n;refine⟨o,f,λname=>?_⟩;have e:=hm name;unfold nsFind findBy at e;rw[<-Array.find?_toList]at e;unfold PySem.W.lookIn;rw[hd];dsimp only;split;·rename_i y q;rw[q]at e;exact congrArg some e
 ·rename_i q;rw[q]at e;have a:es.toList.any (·.refKey)=false:=by rw[List.any_eq_false];intro y g;obtain⟨z,t,d⟩:=c y (Array.mem_toList_iff.mp g);simp[DictEntry.refKey,d]
  have b:¬es.toList.any (·.refKey)=true:=by rw[a];exact fw
  rw[if_neg b];exact congrArg some e
theorem Bu.look{h:Heap}{x dx C:Addr}{mA:Str->Option Value}(I:Bu h x dx C mA):∃od,PySem.W.InstAt h x (PySem.W.instObj C dx) C (some od)/\∀name,PySem.W.lookIn name od=some (mA name):=let⟨od,a,hl⟩:=GI I.ns;⟨od,⟨I.obj,rfl,rfl,a⟩,hl⟩
section
variable{prog:Program}{w:World}{A:Around}{E:Value->Shared->Prop}{s:Shared}{K:PySem.W.Frag}{x dx C f:Addr}{mA:Str->Option Value}{name:Str}{v:Value}
theorem get_map{expr:Bool}{Q:Value->Shared->Prop}(X:K.In s.heap)(I:Bu s.heap x dx C mA)(a:PySem.W.plainGet K C name=true)(hh:PySem.W.hasDictIn K C=true)(ha:PySem.W.findIn K (.ref C) name=some none)(b:mA name=some v)(c:PySem.W.handedIn v=true)(h:Q v {s with toks:=s.toks+1}):wpAny (model prog w) A (getAttr (.ref x) name expr) Q E s:=by obtain⟨od,J,hl⟩:=I.look;exact PySem.W.get_value X J (PySem.W.plainGet_of a).1 (PySem.W.findObj_own hh ha rfl (by rw[hl,b])) c h
theorem Lh{pl:Sem Bool}{Q:Value×List Value->Shared->Prop}(X:K.In s.heap)(I:Bu s.heap x dx C mA)(a:PySem.W.plainGet K C name=true)(b:PySem.W.findIn K (.ref C) name=some (some (.ref f)))(ht:PySem.W.isFn K (.ref f)=true)(c:mA name=none)(h:Q (.ref f,[.ref x]) s):wpAny (model prog w) A (getMethod (.ref x) name pl) Q E s:=by obtain⟨od,J,hl⟩:=I.look;exact PySem.W.method_fn X J (PySem.W.plainGet_of a).1 (PySem.W.plainGet_of a).2 b (beq_iff_eq.mp ht) (by show(PySem.W.lookIn name od).map (·.isSome)=some false;rw[hl,c];rfl) h
theorem L8{ns:List Str}{Q:Unit->Shared->Prop}(X:K.In s.heap)(I:Bu s.heap x dx C mA)(l:PySem.W.findIn K (.ref C) "__setattr__"=some (some (.builtin "object.__setattr__")))(k:PySem.W.plainOver K C=true)(ht:PySem.W.takerIn K C name=some none)(hh:PySem.W.hasDictIn K C=true)(hw:PySem.Within mA ns)(p:ns.length<=sizeLine)(h:∀h',Bu h' x dx C (λy=>if y=name then some v else mA y)->Heap.SameBut dx s.heap h'->Q () {s with heap:=h',toks:=s.toks+2}):wpAny (model prog w) A (setAttr (.ref x) name v) Q E s:=by obtain⟨od,J,hl⟩:=I.look;refine PySem.W.set_plain X J l (PySem.W.osa_open (s:={s with toks:=s.toks+1}) (r:=none) X J k ht λb=>?_);obtain⟨cd,hc,g⟩:=PySem.W.any_some hh;have m:s.heap.get? x=some ⟨.ref C,some dx, .plain,#[]⟩:=I.obj;refine aw (bf (aw (aw (wpAny_loadPart m (aw (PySem.W.Looks.here (s:={s with toks:=s.toks+1}) (PySem.W.looks_clsIn X hc) ?_))))));rw[g];refine bf (a:=some dx) (aw (bf (aw ?_)));refine wpAny_nsSet1 (s:={s with toks:=s.toks+1}) I.ns λh' c d=>?_;obtain⟨q,o,n,j,i,e⟩:=c.count (PySem.Within.cons name v hw);refine aw (wpAny_lookBehind j (by rw[i];exact pastItsLine_dict (dI e (by rw[bD];lia))) ?_);exact bf (h _ ⟨(d.2 _ (Ne.symm I.ne)).trans I.obj,c,I.ne⟩ d)
theorem Hy{R:Result->Shared->Prop}{vs:List Value}{a:List (Str×Value)}(X:K.In s.heap)(hm:PySem.W.makesIn K C=true)(hi:PySem.W.findIn K (.ref C) "__init__"=some (some (.ref f)))(b:PySem.W.typeIn K (.ref f)=some (.type "function"))(h:codeAny (model prog w) (A.under (.builtin "type.__call__" ⟨.ref C::vs,a⟩)) (.call (.ref f) ⟨.ref (s.heap.objs.size+1)::vs,a⟩) (PySem.W.InitBack (s.heap.objs.size+1) R) {s with heap:=(s.heap.push PySem.W.emptyDict).push (PySem.W.instObj C s.heap.objs.size)}):codeAny (model prog w) A (.call (.ref C) ⟨vs,a⟩) R s:=by obtain⟨hh,g,d,t,os⟩:=s;exact PySem.W.make_core (PySem.W.makes_of X hm) (PySem.W.looks_findIn X hi) (λself=>PySem.W.bind_fn X self b) (.inl rfl) h
end
noncomputable def ji(f:Str)(v:V):List (Str×V)->List (Str×V)|[]=>[(f,v)]|(g,x)::r=>if g=f then(g,v)::r else(g,x)::ji f v r
theorem mr(f g:Str)(v:V):∀fs:List (Str×V),(ji f v fs).lookup g=if g=f then some v else fs.lookup g
 |[]=>by
  show List.lookup g [(f,v)]=_;by_cases h:g=f;·have hb:(g==f)=true:=beq_iff_eq.mpr h;simp only[List.lookup,hb,if_pos h]
  ·have hb:(g==f)=false:=beq_eq_false_iff_ne.mpr h;simp only[List.lookup,hb,if_neg h]
 |(k,x)::r=>by
  have b:=mr f g v r;rw[show ji f v ((k,x)::r)=(if k=f then(k,v)::r else(k,x)::ji f v r)from rfl];by_cases a:k=f
  ·rw[if_pos a];by_cases h:g=k;·have hb:(g==k)=true:=beq_iff_eq.mpr h;simp only[List.lookup,hb,if_pos (h.trans a)]
   ·have hb:(g==k)=false:=beq_eq_false_iff_ne.mpr h;simp only[List.lookup,hb,if_neg (λe:g=f=>h (e.trans a.symm))]
  ·rw[if_neg a];by_cases h:g=k;·have hb:(g==k)=true:=beq_iff_eq.mpr h;simp only[List.lookup,hb,if_neg (λe:g=f=>a (h.symm.trans e))]
   ·have hb:(g==k)=false:=beq_eq_false_iff_ne.mpr h;simp only[List.lookup,hb];exact b
theorem lY(f:Str)(v:V):∀fs:List (Str×V),f∈(ji f v fs).map (·.1)/\∀g,g∈fs.map (·.1)->g∈(ji f v fs).map (·.1)
 |[]=>⟨by simp[ji],λg h=>by simp at h⟩
 |(k,x)::r=>by
  obtain⟨i1,i2⟩:=lY f v r;rw[show ji f v ((k,x)::r)=(if k=f then(k,v)::r else(k,x)::ji f v r)from rfl];by_cases a:k=f;·rw[if_pos a];subst a;exact⟨by simp,λg h=>by simpa using h⟩
  ·rw[if_neg a];refine⟨?_,λg h=>?_⟩;·rw[gQ];exact cU _ i1
   ·rw[gQ]at h⊢;rcases List.mem_cons.mp h with e|e;·exact List.mem_cons.mpr (.inl e)
    ·exact cU _ (i2 g e)
theorem mJ(f:Str)(v:V):∀fs:List (Str×V),(ji f v fs).length<=fs.length+1
 |[]=>by simp[ji]
 |(k,x)::r=>by
  have b:=mJ f v r;rw[show ji f v ((k,x)::r)=(if k=f then(k,v)::r else(k,x)::ji f v r)from rfl];by_cases a:k=f;·rw[if_pos a,bD,bD];lia
  ·rw[if_neg a,bD,bD];lia
theorem vz.some_of{v:V}{o:Option Value}(r:vz (some v) o):∃u,o=some u/\RelV v u:=by cases o with|none=>exact(show False from r).elim|some u=>exact⟨u,rfl,r⟩
theorem vz.none_of{o:Option Value}(r:vz none o):o=none:=by cases o with|none=>rfl|some u=>exact(show False from r).elim
theorem GL{v:V}{u:Value}(r:RelV v u):PySem.W.handedIn u=true:=by cases v with|bU=>cases(show u=Value.none from r);rfl|bl b=>cases(show u=Value.bool b from r);rfl|int i=>obtain⟨t,e⟩:=(show∃t,u=Value.int i t from r);cases e;rfl|str x=>obtain⟨t,e⟩:=(show∃t,u=Value.str x t from r);cases e;rfl|GC b=>obtain⟨t,e⟩:=(show∃t,u=Value.bytes b t from r);cases e;rfl|Qe b=>obtain⟨t,e⟩:=(show∃t,u=Value.float b t from r);cases e;rfl|ref a=>cases(show u=Value.ref a from r);rfl|ty n=>cases(show u=Value.type n from r);rfl
section
variable{P:Program}{w:World}{H H':Hp}{h h':Heap}{a C dx:Addr}{fs fs':List (Str×V)}
theorem oX(cI:j3 P w H h)(e:H a=some (.ins C dx fs)):∃mA,Bu h a dx C mA/\(∀f,vz (fs.lookup f) (mA f))/\PySem.Within mA (fs.map (·.1))/\fs.length<=1000/\H dx=some (.own a):=by obtain⟨d,z,ne,ob,mA,n,r,q⟩:=(show dR P w H h a (.ins C dx fs)from cI a _ e);exact⟨mA,⟨ob,n,ne⟩,r,q,z,d⟩
end
structure Jz(K:PySem.W.Frag)(C:Addr):Prop where
 pg:PySem.W.plainGet K C Str.empty=true
 hd:PySem.W.hasDictIn K C=true
 po:PySem.W.plainOver K C=true
 sa:PySem.W.findIn K (.ref C) "__setattr__"=some (some (.builtin "object.__setattr__"))
theorem Jz.get{K:PySem.W.Frag}{C:Addr}(c:Jz K C)(f:Str):PySem.W.plainGet K C f=true:=c.pg
def gD(K:PySem.W.Frag)(C:Addr)(f:Str):Prop:=PySem.W.findIn K (.ref C) f=some none
theorem gD.WE{K:PySem.W.Frag}{C:Addr}{f:Str}(n:gD K C f):PySem.W.takerIn K C f=some none:=by unfold PySem.W.takerIn;rw[show PySem.W.findIn K (.ref C) f=some none from n];rfl
structure Con(K:PySem.W.Frag)(C:Addr)(f:Str)(v:V)(u:Value):Prop where
 at_:PySem.W.findIn K (.ref C) f=some (some u)
 rel:RelV v u
 get:PySem.W.specialIn K u "__get__"=some none
 cp:PySem.W.copiedNames.contains f=false
structure Meth(K:PySem.W.Frag)(C:Addr)(m:Str)(f:Addr):Prop where
 at_:PySem.W.findIn K (.ref C) m=some (some (.ref f))
 fn:PySem.W.isFn K (.ref f)=true
 kp:PySem.W.keepIn K (.ref f)=true
section
variable{X:Cx}{pins:List (Addr×Obj)}{σ:St}{H:Hp}{s:Shared}{a C dx:Addr}{fs:List (Str×V)}{f:Str}{v:V}{A:Around}{E:Value->Shared->Prop}
theorem BM{b:Bool}{Q:Value->Shared->Prop}(I:Inv X pins σ H s)(e:H a=some (.ins C dx fs))(c:Jz X.K C)(n:gD X.K C f)(l:fs.lookup f=some v)(h:∀u s',Inv X pins σ H s'->RelV v u->Q u s'):wpAny (model X.prog X.w) A (getAttr (.ref a) f b) Q E s:=by obtain⟨mA,O,r,_,_,_⟩:=oX I.cI e;obtain⟨u,g,d⟩:=vz.some_of (v:=v) (o:=mA f) (by rw[<-l];exact r f);exact get_map I.ic O (c.get f) c.hd n g (GL d) (h u _ (I.tok _) d)
theorem tU{m:Str}{g:Addr}{pl:Sem Bool}{Q:Value×List Value->Shared->Prop}(I:Inv X pins σ H s)(e:H a=some (.ins C dx fs))(c:Jz X.K C)(k:Meth X.K C m g)(l:fs.lookup m=none)(h:Q (.ref g,[.ref a]) s):wpAny (model X.prog X.w) A (getMethod (.ref a) m pl) Q E s:=by obtain⟨mA,O,r,_,_,_⟩:=oX I.cI e;have hn:mA m=none:=vz.none_of (by rw[<-l];exact r m);exact Lh I.ic O (c.get m) k.at_ k.fn hn h
theorem BS{y:V}{u:Value}{Q:Unit->Shared->Prop}(I:Inv X pins σ H s)(e:H a=some (.ins C dx fs))(c:Jz X.K C)(n:gD X.K C f)(hl:fs.length<1000)(p:RelV y u)(h:∀s',Inv X pins σ (upd H a (.ins C dx (ji f y fs))) s'->Q () s'):wpAny (model X.prog X.w) A (setAttr (.ref a) f u) Q E s:=by
 obtain⟨mA,O,r,j,_,i⟩:=oX I.cI e;have m:(fs.map (·.1)).length<=sizeLine:=by rw[bT,sizeLine_eq];lia
 refine L8 I.ic O c.sa c.po n.WE c.hd j m λh' d sb=>h _ ?_;have hd:∃o,h'.get? dx=some o:=let⟨o,_,_,k,_⟩:=d.ns;⟨o,k⟩;refine I.write (x:=a) (e:=dx) (by rw[e];exact True.intro) (.inr i) (λb q hb z=>(sb.2 b hb).trans z) hd ?_;refine⟨by rw[bc O.ne];exact i,?_,O.ne,d.obj,_,d.ns,λg=>?_,λg l=>?_⟩;·have :=mJ f y fs;lia
 ·show vz ((ji f y fs).lookup g) (if g=f then some u else mA g);rw[mr];by_cases q:g=f;·rw[if_pos q,if_pos q];exact p
  ·rw[if_neg q,if_neg q];exact r g
 ·by_cases q:g=f;·rw[q];exact(lY f y fs).1
  ·refine(lY f y fs).2 g (j g λz=>l ?_);show(if g=f then some u else mA g)=none;rw[if_neg q];exact z
theorem Inv.made(I:Inv X pins σ H s):Inv X pins σ (upd (upd H s.heap.objs.size (.own (s.heap.objs.size+1))) (s.heap.objs.size+1) (.ins C s.heap.objs.size [])) {s with heap:=(s.heap.push PySem.W.emptyDict).push (PySem.W.instObj C s.heap.objs.size)}:=by
 have c:(s.heap.push PySem.W.emptyDict).get? s.heap.objs.size=some PySem.W.emptyDict:=gU s.heap rfl;have g:((s.heap.push PySem.W.emptyDict).push (PySem.W.instObj C s.heap.objs.size)).get? (s.heap.objs.size+1)=some (PySem.W.instObj C s.heap.objs.size):=by have :=gU (s.heap.push PySem.W.emptyDict) (o:=PySem.W.instObj C s.heap.objs.size) rfl;rwa[Heap.size_push]at this
 have h:(s.heap.push PySem.W.emptyDict).Ns s.heap.objs.size (λ_=>none):=⟨PySem.W.emptyDict,#[],_,c,rfl,(λe i=>absurd i (by simp)),λ_=>rfl⟩;have d:=I.laid (a:=s.heap.objs.size) (o:= .own (s.heap.objs.size+1)) (h':=s.heap.push PySem.W.emptyDict) (t':=s.toks) (λb u q=>cW _ q) (bB _) ⟨_,c⟩;refine d.laid (a:=s.heap.objs.size+1) (o:= .ins C s.heap.objs.size []) (t':=s.toks) (λb u q=>cW _ q) (Nat.le_of_eq (Heap.size_push _ _)) ?_;have ne:s.heap.objs.size≠s.heap.objs.size+1:=eH (Nat.lt_succ_self _);refine⟨by rw[bc ne,ag],fV _,ne,g,λ_=>none,(Heap.Ns1.of_empty h).at λo q=>cW _ q,λ_=>True.intro,λy j=>absurd rfl j⟩
theorem Nt{prog:Program}{w:World}{env:Env}{e:Expr}{f:Str}{b:Pos}{s:Shared}{Q:Value->Shared->Prop}(hb:attributeBase e f env (eval e env)=eval e env)(h:wpAny (model prog w) A (eval e env) (λo c=>wpAny (model prog w) A (getAttr o f true) Q E c) E s):wpAny (model prog w) A (eval (.Attribute e f b) env) Q E s:=Attribute_any_ h (by rw[arm_eval_Attribute,hb])
end
noncomputable def Zx(K:PySem.W.Frag)(c:TE)(f:Str):TE:=λσ H Q=>c σ H λx b=>∃a C dx fs v,x= .ref a/\b a=some (.ins C dx fs)/\Jz K C/\gD K C f/\fs.lookup f=some v/\Q v b
noncomputable def ZG(K:PySem.W.Frag)(d e:TE)(f:Str):TS:=λD σ H=>e σ H λy c=>d σ c λx b=>∃a C dx fs,x= .ref a/\b a=some (.ins C dx fs)/\Jz K C/\gD K C f/\fs.length<1000/\D.nx σ (upd b a (.ins C dx (ji f y fs)))
section
variable{X:Cx}{o e value:Expr}{f:Str}{pos pos' ZJ:Pos}{ta tv:TE}
theorem eJ(j:PE X e ta)(hb:attributeBase e f X.env (eval e X.env)=eval e X.env):PE X (.Attribute e f pos) (Zx X.K ta f):=by intro pins s σ H Q I h;refine Nt hb (bR (j pins s σ H _ I h) λu s1 p=>?_);obtain⟨x,b,d,m,a,C,dx,fs,v,ex,i,c,n,l,q⟩:=p;subst ex;obtain rfl:u=Value.ref a:=m;exact BM d i c n l λr s2 g k=>⟨v,b,g,k,q⟩
theorem yf(ha:PE X o ta)(m:PE X value tv)(k:swapsWith value (some (.Attribute o f pos')) pos.line X.env=pure false):PS X (.Assign [.Attribute o f pos'] value pos) (ZG X.K ta tv f):=by intro pins s σ H D I h;refine plainObj_wpAny_Assign_Attribute (bR (m pins s σ H _ I h) λu s1⟨y,b,d,v,q⟩=>bR (ha pins s1 σ b _ d q) λp s2 w=>?_) k;obtain⟨x,z,g,t,a,C,dx,fs,ex,j,c,n,l,r⟩:=w;subst ex;obtain rfl:p=Value.ref a:=t;exact BS g j c n l v λA i=>⟨σ,_,i,r⟩
end
section
variable{X:Cx}{pins:List (Addr×Obj)}{σ:St}{H:Hp}{s:Shared}{A:Around}{E:Value->Shared->Prop}{Q:Value->Shared->Prop}{c:Value}{b:Bool}
inductive jD(K:PySem.W.Frag)(H:Hp):V->Value->Prop where|bU:jD K H .bU (.type "NoneType")|bl(x:Bool):jD K H (.bl x) (.type "bool")|int(i:Int):jD K H (.int i) (.type "int")|str(x:Str):jD K H (.str x) (.type "str")|Qe(x:UInt64):jD K H (.Qe x) (.type "float")|lst{a:Addr}{xs:List V}(e:H a=some (.lst xs)):jD K H (.ref a) (.type "list")|B3{a:Addr}{o:Obj}{xs:List V}(e:H a=some (.B3 o (.lst xs))):jD K H (.ref a) (.type "list")|tup{a:Addr}{xs:List V}(e:H a=some (.tup xs)):jD K H (.ref a) (.type "tuple")|dK{a:Addr}{ip:List (Key×V)}(e:H a=some (.dK ip)):jD K H (.ref a) (.type "dict")|dT{a:Addr}{ip:List (List Key×V)}(e:H a=some (.dT ip)):jD K H (.ref a) (.type "dict")|ins{a C dx:Addr}{fs:List (Str×V)}(e:H a=some (.ins C dx fs))(cl:Jz K C)(ha:PySem.W.findIn K (.ref C) "__class__"=some (some (.builtin "object.__class__")))(hn:PySem.W.specialIn K (.builtin "object.__class__") "__get__"=some (some (.builtin "getset_descriptor.__get__")))(htk:PySem.W.takesIn K (.builtin "object.__class__")=some true)(hm:PySem.W.mroIn K C (.type "object")=some true):jD K H (.ref a) (.ref C)
theorem GS{x:V}{u t:Value}(I:Inv X pins σ H s)(f:RelV x u)(ty:jD X.K H x t)(e:PySem.W.kitOne X.K t c=some b)(h:∀tk,Q (.bool b) {s with toks:=tk}):wpAny (model X.prog X.w) A (call (.builtin "isinstance") [u,c]) Q E s:=by cases ty with|bU=>cases(show u=Value.none from f);exact PySem.W.kia_one PySem.W.kitx_none I.ic True.intro e (λz=>nomatch z) h|bl y=>cases(show u=Value.bool y from f);exact PySem.W.kia_one PySem.W.kitx_bool I.ic True.intro e (λz=>nomatch z) h|int i=>obtain⟨t,q⟩:=(show∃t,u=Value.int i t from f);cases q;exact PySem.W.kia_one PySem.W.kitx_int I.ic True.intro e (λz=>nomatch z) h|str y=>obtain⟨t,q⟩:=(show∃t,u=Value.str y t from f);cases q;exact PySem.W.kia_one PySem.W.kitx_str I.ic True.intro e (λz=>nomatch z) h|Qe y=>obtain⟨t,q⟩:=(show∃t,u=Value.float y t from f);cases q;exact PySem.W.kia_one PySem.W.kitx_float I.ic True.intro e (λz=>nomatch z) h|@lst a xs d=>cases(show u=Value.ref a from f);obtain⟨_,_,n,_,h1⟩:=(show dR X.prog X.w H s.heap a (.lst xs)from I.cI a _ d);exact PySem.W.kia_one PySem.W.kitx_list I.ic ⟨_,h1,rfl⟩ e (λz=>nomatch z) h|@B3 a ob xs d=>cases(show u=Value.ref a from f);obtain⟨_,_,_,n,_,h1⟩:=(show dR X.prog X.w H s.heap a (.B3 ob (.lst xs))from I.cI a _ d);exact PySem.W.kia_one PySem.W.kitx_list I.ic ⟨_,h1,rfl⟩ e (λz=>nomatch z) h|@tup a xs d=>cases(show u=Value.ref a from f);obtain⟨_,_,_,p⟩:=(show dR X.prog X.w H s.heap a (.tup xs)from I.cI a _ d);obtain⟨o,h1,h2,_⟩:=p;exact PySem.W.kia_one PySem.W.kitx_tuple I.ic ⟨o,h1,h2⟩ e (λz=>nomatch z) h|@dK a ip d=>cases(show u=Value.ref a from f);obtain⟨_,_,vs,_,p⟩:=(show dR X.prog X.w H s.heap a (.dK ip)from I.cI a _ d);obtain⟨o,es,ep,h1,h2,_⟩:=p;exact PySem.W.kia_one PySem.W.kitx_dict I.ic ⟨o,h1,h2.1⟩ e (λz=>nomatch z) h|@dT a ip d=>cases(show u=Value.ref a from f);obtain⟨_,_,xs,_,o,es,ep,h1,h2,_⟩:=(show dR X.prog X.w H s.heap a (.dT ip)from I.cI a _ d);exact PySem.W.kia_one PySem.W.kitx_dict I.ic ⟨o,h1,h2.1⟩ e (λz=>nomatch z) h|@ins a C dx fs d cl ha hn htk hm=>cases(show u=Value.ref a from f);obtain⟨mA,O,_⟩:=oX I.cI d;obtain⟨od,J,_⟩:=O.look;exact PySem.W.kia_one (PySem.W.kitx_own (cl.get _) cl.hd ha hn htk hm) I.ic J e (λz=>nomatch z) h
end
structure cV(k:Nat)(A:Around):Prop where
 dp:A.depth+3*k+5<recursionLimit
 un:A.units+16*k+200<cLine
 hd:130<=k->A.handled=none
theorem cV.mono{j k:Nat}{A:Around}(r:cV k A)(h:j<=k):cV j A:=⟨by have :=r.dp;lia,by have :=r.un;lia,λz=>r.hd (by lia)⟩
theorem cV.deeper{k:Nat}{A:Around}(r:cV (k+1) A)(env:Env):cV k (A.deeper env):=⟨by have :=r.dp;show A.depth+1+3*k+5<_;lia,by have :=r.un;show A.units+3+16*k+200<_;lia,λz=>r.hd (by lia)⟩
theorem Bf{A:Around}{C:Addr}{us:List Value}{a:List (Str×Value)}:(A.under (.builtin "type.__call__" ⟨.ref C::us,a⟩)).depth=A.depth+1:=by first|rfl|simp[Around.under,Code.weight,Code.isCreation,Code.isGuard,Code.isCaller,Code.frames,Code.isFrame,guardIds]
theorem Bv{A:Around}{C:Addr}{us:List Value}{a:List (Str×Value)}:(A.under (.builtin "type.__call__" ⟨.ref C::us,a⟩)).units=A.units+1:=by first|rfl|simp[Around.under,Code.cUnits,Code.frames,Code.isFrame]
theorem cV.make{k:Nat}{A:Around}(r:cV (k+1) A)(C:Addr)(us:List Value)(a:List (Str×Value)):cV k (A.under (.builtin "type.__call__" ⟨.ref C::us,a⟩)):=⟨by have :=r.dp;rw[Bf];lia,by have :=r.un;rw[Bv];lia,λz=>r.hd (by lia)⟩
theorem cV.depth{k:Nat}{A:Around}(r:cV k A):A.depth<recursionLimit:=by have :=r.dp;lia
theorem cV.units{k:Nat}{A:Around}(r:cV k A):A.units+64<cLine:=by have :=r.un;lia
noncomputable def iB:TA:=λ_ H Q=>Q [] H
noncomputable def cP(c:TE)(d:TA):TA:=λσ H Q=>c σ H λx a=>d σ a λxs b=>Q (x::xs) b
section
variable{X:Cx}{e:Expr}{es:List Expr}{te:TE}{t:TA}{pos:Pos}
theorem af:PA X [] iB:=λ_ _ _ _ H Q I h=>Calls.spliced_nil ⟨[],H,I, .nil,h⟩
theorem aa(ha:PE X e te)(f:PA X es t)(g:starEach (e::es) X.env=(false,eval e X.env)::starEach es X.env:=by rfl):PA X (e::es) (cP te t):=by intro pos pins s σ H Q I h;rw[g];show wpAny _ _ (spliced ((false,eval e X.env)::backTo pos (starEach es X.env))) _ _ s;refine Calls.spliced_cons (bR (ha pins s σ H _ I h) λu s1 m=>?_);obtain⟨x,a,c,k,i⟩:=m;exact bR (f pos pins s1 σ a _ c i) λus s2⟨xs,b,d,l,j⟩=>⟨x::xs,b,d, .cons k l,j⟩
noncomputable def Va(t:TA):TE:=λσ H Q=>t σ H λxs a=>xs.length<=sizeLine/\∀p,a p=none->Q (.ref p) (upd a p (.tup xs))
noncomputable def BQ(t:TA):TE:=λσ H Q=>t σ H λxs a=>xs.length<=sizeLine/\∀p,a p=none->Q (.ref p) (upd a p (.lst xs))
theorem bQ{f}(h:PA X es t):PE X (.Tuple es f pos) (Va t):=by intro pins s σ H Q I hq;refine wpAny_Tuple_spliced (bR (h pos pins s σ H _ I hq) λus s1⟨xs,a,c,r,z,q⟩=>⟨by rw[<-r.length];exact z,?_⟩);have d:a s1.heap.objs.size=none:=c.cI.fresh (bB _);refine⟨.ref s1.heap.objs.size,upd a s1.heap.objs.size (.tup xs),c.laid (t':=s1.toks) (λb u e=>cW _ e) (bB _) ?_,rfl,q _ d⟩;exact⟨z,us,r,⟨_,gU _ rfl,rfl,_,rfl⟩⟩
theorem aT(h:PA X es t):PE X (.List es pos) (BQ t):=by intro pins s σ H Q I hq;refine wpAny_List_spliced (bR (h pos pins s σ H _ I hq) λus s1⟨xs,a,c,r,z,q⟩=>⟨by rw[<-r.length];exact z,?_⟩);have d:a s1.heap.objs.size=none:=c.cI.fresh (bB _);refine⟨.ref s1.heap.objs.size,upd a s1.heap.objs.size (.lst xs),c.laid (t':=s1.toks) (λb u e=>cW _ e) (bB _) ?_,rfl,q _ d⟩;exact⟨z,us,0,r,gU _ rfl⟩
end
noncomputable abbrev Sp:=List V->Hp->VK->XK->Prop
noncomputable abbrev nU:=Option Value->List Env->Hp->Shared->XK->Value->Shared->Prop
structure Az(P:Program)(w:World)(K:PySem.W.Frag)(mg:Str->Option Value)(base:Heap)(A:Around)(outer:List Env)(s:Shared)(H:Hp):Prop where
 frames:A.frames=some outer
 mod:Mod K mg base
 bs:∀b o,base.get? b=some o->s.heap.get? b=some o/\H b=none
 G5:base.objs.size<=s.heap.objs.size
 jU:s.heap.FunFrames base outer
 N9:∀b∈jn outer,H b=none
 cI:j3 P w H s.heap
 bare:AllBare s.gens
 LJ:HB base A
noncomputable def CE(outer:List Env)(P:Program)(w:World)(H:Hp)(s:Shared)(Q:VK)(u:Value)(s':Shared):Prop:=∃v H',s'.os=s.os/\AllBare s'.gens/\Un (jn outer) [] H H' s.heap s'.heap/\j3 P w H' s'.heap/\RelV v u/\Q v H'
noncomputable def CR(CX:nU)(hh:Option Value)(outer:List Env)(P:Program)(w:World)(H:Hp)(s:Shared)(Q:VK)(E:XK)(r:Result)(s':Shared):Prop:=match r with| .ok (.ret u)=>CE outer P w H s Q u s'| .ok _=>False| .error e=>CX hh outer H s E e s'
structure nP(P:Program)(w:World)(K:PySem.W.Frag)(mg:Str->Option Value)(base:Heap)(CX:nU)(k:Nat)(f:Addr)(fd:FuncData)(ps:List Str)(sp:Sp):Prop where
 len:∀vs H Q E,sp vs H Q E->vs.length=ps.length
 run:∀(A:Around)(outer:List Env)(s:Shared)(H:Hp)(args:Args)(us:List Value)(vs:List V)(Q:VK)(E:XK),cV k A->Az P w K mg base A outer s H->BindsTo s fd args (ps.zip us)->Vals vs us->sp vs H Q E->codeAny (model P w) A (.call (.ref f) args) (CR CX A.handled outer P w H s Q E) s
theorem Az.make{P:Program}{w:World}{K:PySem.W.Frag}{mg:Str->Option Value}{base:Heap}{A:Around}{outer:List Env}{s:Shared}{H:Hp}(e:Az P w K mg base A outer s H)(C:Addr)(us:List Value)(a:List (Str×Value)):Az P w K mg base (A.under (.builtin "type.__call__" ⟨.ref C::us,a⟩)) outer s H:=⟨by first|exact e.frames|(simpa[Around.under,Code.envs,Code.isFrame,pushEnvs]using e.frames),e.mod,e.bs,e.G5,e.jU,e.N9,e.cI,e.bare,e.LJ⟩
section
variable{X:Cx}{pins:List (Addr×Obj)}{σ:St}{H:Hp}{s s':Shared}
theorem Inv.after{Q:VK}{u:Value}(I:Inv X pins σ H s)(h:CE X.stack X.prog X.w H s Q u s'):EP X pins σ Q u s':=by obtain⟨v,H',os,bare,un,cI,r,q⟩:=h;obtain⟨hh,g,d,t,a⟩:=s';obtain rfl:a=s.os:=os;exact⟨v,H',I.call (h':=hh) (g':=g) (d':=d) (t':=t) (ch:=[]) un cI bare (λb z=>absurd z (by simp)),r,q⟩
end
noncomputable def mV(sp:Sp)(b:List V)(E:XK)(t:TA):TE:=λσ H Q=>t σ H λvs a=>sp (vs++b) a Q E
noncomputable def Qa(C:Addr)(m:Str)(sp:Sp)(d:List V)(E:XK)(e:TE)(t:TA):TE:=λσ H Q=>e σ H λx b=>∃a dx fs,x= .ref a/\b a=some (.ins C dx fs)/\fs.lookup m=none/\t σ b λvs c=>sp (x::(vs++d)) c Q E
noncomputable def XN(C:Addr)(sp:Sp)(c:List V)(E:XK)(t:TA):TE:=λσ H Q=>t σ H λvs a=>∀x dx,a x=none->a dx=none->dx≠x->sp (.ref x::(vs++c)) (upd (upd a dx (.own x)) x (.ins C dx [])) (λv b=>v= .bU/\Q (.ref x) b) E
noncomputable def Binds(K:PySem.W.Frag)(fd:FuncData)(ps:List Str)(ds:List Value):Prop:=∀(s:Shared)(us:List Value),K.In s.heap->(us++ds).length=ps.length->BindsTo s fd ⟨us,[]⟩ (ps.zip (us++ds))
theorem Binds.all{K:PySem.W.Frag}{fd:FuncData}{ps:List Str}(h:∀us:List Value,us.length=ps.length->bindArgs fd ⟨us,[]⟩=pure (ps.zip us)):Binds K fd ps []:=λs us _ hl=>by rw[eY]at hl⊢;exact .of_eq (h us hl)
def Passes(CX:nU)(X:Cx)(E:XK):Prop:=∀(pins:List (Addr×Obj))(σ:St)(H:Hp)(s:Shared)(e:Value)(s':Shared),Inv X pins σ H s->CX X.A.handled X.stack H s E e s'->X.xe e s'
section
variable{X:Cx}{CX:nU}{k:Nat}{f C:Addr}{fd:FuncData}{ps:List Str}{sp:Sp}{TZ:List V}{ds:List Value}{E:XK}{x m:Str}{p pos apos:Pos}{e o:Expr}{es:List Expr}{ta:TE}{t:TA}
end
noncomputable def PK(X:Cx)(a:List Keyword)(t:TA):Prop:=∀(b:Pos)(pins:List (Addr×Obj))(s:Shared)(σ:St)(H:Hp)(Q:List V->Hp->Prop),Inv X pins σ H s->t σ H Q->wpAny (model X.prog X.w) X.A (evalAll ((backToKw b (keywordEach a X.env)).map (·.2))) (AP X pins σ Q) X.xe s
section
variable{X:Cx}{CX:nU}{k:Nat}{f C:Addr}{fd:FuncData}{ps ks:List Str}{sp:Sp}{E:XK}{x m:Str}{p pos apos aaw:Pos}{e o:Expr}{es:List Expr}{Yg:List Keyword}{te ta:TE}{t tk:TA}{nm:Option Str}
theorem QS:PK X [] iB:=λ_ _ _ _ H Q I h=>wpAny_evalAll_nil ⟨[],H,I, .nil,h⟩
theorem LP(ha:PE X e te)(g:PK X Yg t):PK X (⟨nm,e,aaw⟩::Yg) (cP te t):=by intro pos pins s σ H Q I h;show wpAny _ _ (evalAll ((do let v<-eval e X.env;standAt pos;pure v)::(backToKw pos (keywordEach Yg X.env)).map (·.2))) _ _ s;refine wpAny_evalAll_cons (aw (bR (ha pins s σ H _ I h) λu s1⟨x,a,c,l,i⟩=>aw (wpAny_standAt (bf ?_))));exact bR (g pos pins s1 σ a _ c i) λus s2⟨xs,b,d,n,j⟩=>⟨x::xs,b,d, .cons l n,j⟩
end
structure aJ(N P:List Str)(sc:Scope):Prop where
 kind:sc.kind= .function
 co:sc.isCoroutine=false
 gen:sc.isGenerator=false
 nd:N.Nodup
 pre:N.take P.length=P
 par:∀x∈P,sc.names.lookup x=some .local\/sc.names.lookup x=some .cell
 Sw:∀y∈sc.names,y.2≠ .free
theorem wu{kindOf:Str->Option NameKind}{x:Str}:∀{binds:List (Str×Value)}{m:Str->Option Value},(∀v,(x,v)∉binds)->bindL kindOf binds m x=m x
 |[],_,_=>rfl
 |(n,v)::r,m,h=>by
  unfold bindL;rw[wu λw hw=>h w (cU _ hw)];split
  ·have :x≠n:=by rintro rfl;exact h v b5
   simp[this]
  ·rfl
theorem vW{kindOf:Str->Option NameKind}{x:Str}:∀{binds:List (Str×Value)}{m:Str->Option Value},(∀v,(x,v)∉binds)->bindC kindOf binds m x=m x
 |[],_,_=>rfl
 |(n,v)::r,m,h=>by
  unfold bindC;rw[vW λw hw=>h w (cU _ hw)];split;·rfl
  ·have :x≠n:=by rintro rfl;exact h v b5
   simp[this]
theorem wF{kindOf:Str->Option NameKind}{x:Str}{v:Value}:∀{P:List Str}{vs:List Value}{i:Nat}{m:Str->Option Value},P.Nodup->P[i]?=some x->vs[i]?=some v->kindOf x=some .local->bindL kindOf (P.zip vs) m x=some v|[],_,_,_,_,h,_,_=>by simp at h|_::_,[],_,_,_,_,h,_=>by simp at h|p::P,w::vs,0,m,nd,h1,h2,a=>by simp at h1 h2;subst h1;subst h2;show bindL kindOf ((p,w)::P.zip vs) m p=_;unfold bindL;rw[wu λv b=>(List.nodup_cons.mp nd).1 (List.of_mem_zip b).1,if_pos a];simp|p::P,w::vs,i+1,m,nd,h1,h2,a=>by show bindL kindOf ((p,w)::P.zip vs) m x=_;unfold bindL;exact wF (i:=i) (List.nodup_cons.mp nd).2 (by simpa using h1) (by simpa using h2) a
theorem vQ{kindOf:Str->Option NameKind}{x:Str}{v:Value}:∀{P:List Str}{vs:List Value}{i:Nat}{m:Str->Option Value},P.Nodup->P[i]?=some x->vs[i]?=some v->kindOf x≠some .local->bindC kindOf (P.zip vs) m x=some v|[],_,_,_,_,h,_,_=>by simp at h|_::_,[],_,_,_,_,h,_=>by simp at h|p::P,w::vs,0,m,nd,h1,h2,a=>by simp at h1 h2;subst h1;subst h2;show bindC kindOf ((p,w)::P.zip vs) m p=_;unfold bindC;rw[vW λv b=>(List.nodup_cons.mp nd).1 (List.of_mem_zip b).1,if_neg a];simp|p::P,w::vs,i+1,m,nd,h1,h2,a=>by show bindC kindOf ((p,w)::P.zip vs) m x=_;unfold bindC;exact vQ (i:=i) (List.nodup_cons.mp nd).2 (by simpa using h1) (by simpa using h2) a
noncomputable def start(N:List Str)(vs:List V):St:=vs.map some++List.replicate (N.length-vs.length) none
noncomputable def d_(CX:nU)(P:Program)(w:World)(K:PySem.W.Frag)(mg:Str->Option Value)(base:Heap)(N:List Str)(qual:Str)(scope:Scope)(f:Addr)(cd:Value)(A:Around)(outer:List Env)(s:Shared)(H:Hp)(E:XK):Cx where prog:=P;w:=w;K:=K;mg:=mg;base:=base;A:=A.deeper (envOfC qual scope s.heap.objs.size f cd);N:=N;b4:=s;H₀:=H;env:=envOfC qual scope s.heap.objs.size f cd;outer:=outer;stack:=envOfC qual scope s.heap.objs.size f cd::outer;ex:=[];calm:=true;fn:=λ_=>true;pn:=[];xe:=λe s'=>wpAny (model P w) (A.deeper (envOfC qual scope s.heap.objs.size f cd)) (leaving (envOfC qual scope s.heap.objs.size f cd) e) (λ_ a=>CX A.handled outer H s E e a) (λb a=>CX A.handled outer H s E b a) s'
theorem zS{sc:Scope}{n:Nat}{x:Str}(h:sc.names.lookup x=some .cell):∃c,(cellsFrom n sc.names []).lookup x=some c:=by have q:=PySem.W.cellsFrom_some sc.names n [] (.inl h);exact Option.isSome_iff_exists.mp q
theorem wy{CX:nU}{P:Program}{w:World}{K:PySem.W.Frag}{mg:Str->Option Value}{base:Heap}{N ps:List Str}{qual:Str}{scope:Scope}{f:Addr}{cd:Value}{A:Around}{outer:List Env}{s s1:Shared}{H:Hp}{E:XK}{us:List Value}{vs:List V}(S:aJ N ps scope)(d:Az P w K mg base A outer s H)(hl:vs.length=ps.length)(r:Vals vs us)(x:InCallC s s.heap.objs.size (bindL (envOfC qual scope s.heap.objs.size f cd).kindOf (ps.zip us) λ_=>none) (cellsFrom (s.heap.objs.size+1) scope.names []) (bindC (envOfC qual scope s.heap.objs.size f cd).kindOf (ps.zip us) λ_=>none) s1):Inv (d_ CX P w K mg base N qual scope f cd A outer s H E) [] (start N vs) H s1:=by
 have C:ps.length<=N.length:=by have :=congrArg List.length S.pre;rw[dU]at this;lia
 obtain⟨h1,tk,rfl,m⟩:=x.done;have l:∀b:Addr,b∉(d_ CX P w K mg base N qual scope f cd A outer s H E).ex:=λb z=>absurd (show b∈([]:List Addr)from z) (by simp);refine⟨⟨d.mod,S.kind,rfl,rfl,bB _,λy z c h1 h2=>?_,λy g=>?_,λy c _ h=>?_,λ_=>d.LJ.toP,Around.frames_deeper d.frames, .inr ⟨rfl,rfl⟩,λb z=>absurd z (l b),d.bs,d.G5,λb _ _=>l b,λb z=>absurd z (l b),d.jU,d.N9⟩,rfl,d.bare,Un.kept m,⟨_,x.toInCall.ns,λi y v h1 h2 h3=>?_⟩,λy c h=>⟨_,x.cell y c h⟩,d.cI.fresh (bB _),λy c h=>?_,λp j=>absurd (show p∈([]:List (Addr×Obj))from j) (by simp),d.cI.kept m,?_⟩;·exact name_of_addr x.apart (PySem.mem_of_lookup h1) (PySem.mem_of_lookup h2)
 ·have g:scope.names.lookup y=some .cell\/scope.names.lookup y=some .free:=g;rcases g with g|g;·exact zS g
  ·exact absurd rfl (S.Sw _ (PySem.mem_of_lookup g))
 ·exact Nat.le_of_lt (x.above y c (PySem.mem_of_lookup h))
 ·have hi:i<vs.length:=by
   unfold start at h2;by_cases hi:i<vs.length;·exact hi
   ·rw[List.getElem?_append_right (by simpa using hi)]at h2;rw[List.getElem?_replicate]at h2;split at h2<;>cases h2
  have ha:vs[i]?=some v:=by unfold start at h2;rw[AL (by simpa using hi),fU]at h2;cases e:vs[i]? with|none=>rw[e]at h2;cases h2|some a=>rw[e]at h2;cases h2;rfl
  obtain⟨u,o,B⟩:=r.get ha;have j:ps[i]?=some y:=by rw[<-S.pre,List.getElem?_take_of_lt (by lia)];exact h1
  have t:ps.Nodup:=by rw[<-S.pre];exact S.nd.sublist (List.take_sublist _ _)
  refine⟨u,B,?_⟩;rcases S.par y (List.mem_of_getElem? j)with k|k;·exact .inl ⟨k,wF t j o k⟩
  ·obtain⟨c,e⟩:=zS (n:=s.heap.objs.size+1) k;refine .inr ⟨.inl k,c,e,?_⟩;have q:=x.cell y c e;rw[vQ t j o (by show scope.names.lookup y≠_;rw[k];decide)]at q;exact q
 ·exact d.cI.fresh (Nat.le_of_lt (x.above y c (PySem.mem_of_lookup h)))
 ·unfold start;show _=N.length;rw[cx,bT,List.length_replicate];lia
theorem J4{CX:nU}{P:Program}{w:World}{K:PySem.W.Frag}{mg:Str->Option Value}{base:Heap}{k:Nat}{f:Addr}{name qual:Str}{params:Arguments}{body:List Stmt}{scope:Scope}{h kV doc pm cH ct oc:Value}{an od:Option Addr}{Ge:Array (Option Value)}{N ps:List Str}{sp:Sp}(D:K.lookup f=some ⟨oc,od, .func (PySem.W.fnOf name qual params body scope h kV doc pm an cH ct),Ge⟩)(m:PySem.W.codeIn K cH qual=true)(S:aJ N ps scope)(len:∀vs H Q E,sp vs H Q E->vs.length=ps.length)(l:∀(A:Around)(outer:List Env)(s:Shared)(H:Hp)(vs:List V)(Q:VK)(E:XK),cV k (A.deeper (envOfC qual scope s.heap.objs.size f cH))->sp vs H Q E->∃t,jx (d_ CX P w K mg base N qual scope f cH A outer s H E) body t/\t {nx:=λ_ H'=>Q .bU H',rt:=Q} (start N vs) H):nP P w K mg base CX (k+1) f (PySem.W.fnOf name qual params body scope h kV doc pm an cH ct) ps sp:=by
 refine⟨len,λA outer s H args us vs Q E i c hb r j=>?_⟩;have hl:=len _ _ _ _ j;have KX:K.In s.heap:=c.mod.FE.keeps λb o e=>(c.bs b o e).1;have C:s.heap.NoLimit:=c.mod.nolimit.keeps λb o e=>(c.bs b o e).1;have z:∀y∈ps.zip us,scope.names.lookup y.1=some .local\/(scope.names.lookup y.1=some .cell/\((cellsFrom (s.heap.objs.size+1) scope.names []).lookup y.1).isSome=true):=λ⟨n,v⟩B=>by
  rcases S.par n (List.of_mem_zip B).1 with q|q;·exact .inl q
  ·exact .inr ⟨q,PySem.W.cellsFrom_some _ _ _ (.inl q)⟩
 refine codeAny_call_function i.depth (KX _ _ D) rfl S.co S.gen rfl (PySem.W.codeRec_of KX m) (hb _ _ _ _ ?_);refine wpAny_newFunctionEnv_cells S.kind z λenv p s1 x=>?_;subst p;refine⟨C.keeps x.toInCall.keep,codeAny_func ?_⟩;obtain⟨t,ht,hq⟩:=l A outer s H vs Q E (i.deeper _) j;have I:Inv (d_ CX P w K mg base N qual scope f cH A outer s H E) [] (start N vs) H s1:=wy S c hl r x;refine fk (ht [] s1 (start N vs) H _ I hq) (λfl s' a=>?_) λe s' a=>a;have fin:∀{d:St}{H':Hp}{v:V}{u:Value},Inv (d_ CX P w K mg base N qual scope f cH A outer s H E) [] d H' s'->RelV v u->Q v H'->CE outer P w H s Q u s':=λ{d H' v u}J g q=>⟨v,H',J.os,J.bare,J.base,J.cI,g,q⟩;cases fl with|ret u=>obtain⟨v,d,H',J,g,q⟩:=a;exact fin J g q|next=>obtain⟨d,H',J,q⟩:=a;exact fin (v:=V.bU) (u:=Value.none) J rfl q|brk=>obtain⟨_,_,_,q⟩:=a;exact False.elim q|cont=>obtain⟨_,_,_,q⟩:=a;exact False.elim q
section
variable{X:Cx}{x:Str}{p pos:Pos}{e:Expr}{es:List Expr}{t:TA}{id T:String}{r:List V->Hp->VK->Prop}
noncomputable def tCB(r:List V->Hp->VK->Prop)(t:TA):TE:=λσ H Q=>t σ H λvs a=>r vs a Q
theorem aM(hc:fA X (.builtin id) r)(f:Gl X x)(hm:X.mg x=none)(i:bootBuiltins x=some (.builtin id))(ha:PA X (e::es) t)(hn:x≠"__name__":=by decide)(c:(x==("__debug__":Str))=false:=by decide)(d:starEach (e::es) X.env=(false,eval e X.env)::starEach es X.env:=by rfl)(g:(backTo pos (starEach es X.env)).any (·.1)=false:=by rfl):PE X (.Call (.Name x p) (e::es) [] pos) (tCB r t):=by intro pins s σ H Q I h;refine wpAny_Call_Name_kw (jS I f hm i ?_ hn c);exact PyProof.Rows.callWith_builtin1 (bR (ha pos pins s σ H _ I h) λus s1⟨vs,a,b,k,j⟩=>hc pins s1 σ a vs us Q b k j) d g
theorem cQ(hc:fA X (.type T) r)(f:Gl X x)(hm:X.mg x=none)(i:bootBuiltins x=some (.type T))(ha:PA X (e::es) t)(hn:x≠"__name__":=by decide)(c:(x==("__debug__":Str))=false:=by decide)(d:starEach (e::es) X.env=(false,eval e X.env)::starEach es X.env:=by rfl)(g:(backTo pos (starEach es X.env)).any (·.1)=false:=by rfl):PE X (.Call (.Name x p) (e::es) [] pos) (tCB r t):=by intro pins s σ H Q I h;refine wpAny_Call_Name_kw (jS I f hm i ?_ hn c);exact PyProof.Rows.callWith_type1 (bR (ha pos pins s σ H _ I h) λus s1⟨vs,a,b,k,j⟩=>hc pins s1 σ a vs us Q b k j) d g
end
end L2
end
section
namespace HT
open PySem PyProof.Rows
section
open PySem.SeqAt
open PySem.AutoSeq1(wpAny_loadPart')
open PySem.MeetsSeq PySem.MeetsSeq2 PySem.MeetsSeq3
end
section
variable{prog:Program}{w:World}{A:Around}{E:Value->Shared->Prop}{s:Shared}
theorem Mt{t b:Addr}{vs ws:List Value}{Q:Value->Shared->Prop}(ht:IsTup s.heap t vs.toArray)(hb:IsTup s.heap b ws.toArray)(h:vs≠[])(h1:ws=[]->Q (.ref t) s)(h2:ws≠[]->Q (.ref s.heap.objs.size) {s with heap:=s.heap.push {cls:= .type "tuple",data:= .seq (vs++ws).toArray}})(k:vs.length+ws.length<=sizeLine):wpAny (model prog w) A (binaryOp .Add (.ref t) (.ref b)) Q E s:=by
 obtain⟨⟨cls,dd,data,sl⟩,a,hc,n,hd⟩:=id ht;obtain⟨⟨l,d,data2,j⟩,c,f,i,g⟩:=id hb;simp only at hc hd f g;subst hc hd f g;have e:vs.toArray++ws.toArray=(vs++ws).toArray:=by simp
 by_cases hw:ws=[];·exact concat_meets ⟨_,a,rfl⟩ ⟨_,c,rfl⟩ noFill_tuple_add seq_tuple_add PySem.F.slot_tuple_add PySem.F.entry_tuple_add (PySem.F.args_tuple_add_2 _ _) (tuple_addW1 t b vs.toArray ws.toArray n i dd d sl j (by simpa using h) (by simp[hw])) ⟨a,c,h1 hw⟩
 ·refine concat_meets ⟨_,a,rfl⟩ ⟨_,c,rfl⟩ noFill_tuple_add seq_tuple_add PySem.F.slot_tuple_add PySem.F.entry_tuple_add (PySem.F.args_tuple_add_2 _ _) (tuple_addW2 t b vs.toArray ws.toArray n i dd d sl j (by simpa using h) (by simpa using hw) (by rw[dt,dt];exact k)) ⟨a,c,?_⟩;rw[e];exact h2 hw
noncomputable def cZ(n d:Nat):Option Int->Nat|none=>d|some v=>if v<0 then(v+(n:Int)).toNat else min v.toNat n
theorem k6(n d:Nat):cZ n d none=d:=rfl
theorem gu(n d k:Nat):cZ n d (some (k:Int))=min k n:=by show(if(k:Int)<0 then((k:Int)+(n:Int)).toNat else min (k:Int).toNat n)=min k n;rw[if_neg (by lia),Int.toNat_natCast]
theorem Ju(n d:Nat)(hd:d<=n)(o:Option Int):cZ n d o<=n:=by
 cases o with
  |none=>exact hd
  |some v=>
   show(if v<0 then(v+(n:Int)).toNat else min v.toNat n)<=n;by_cases a:v<0;·rw[if_pos a];lia
   ·rw[if_neg a];exact Nat.min_le_right _ _
theorem Eb(v:Int)(n d:Nat):(if v<0 then max (v+(n:Int)) 0 else min v (n:Int))=((cZ n d (some v):Nat):Int):=by
 show(if v<0 then max (v+(n:Int)) 0 else min v (n:Int))=(((if v<0 then(v+(n:Int)).toNat else min v.toNat n):Nat):Int);by_cases a:v<0;·simp only[if_pos a];lia
 ·simp only[if_neg a];lia
theorem Bk(lo hi:Option Int)(n:Nat):Builtin.Slice.sliceAdjust lo hi 1 (n:Int)=(((cZ n 0 lo:Nat):Int),((cZ n n hi:Nat):Int)):=by
 have h1:¬((1:Int)<0):=by lia
 unfold Builtin.Slice.sliceAdjust;simp only[h1,if_false];refine Prod.ext ?_ ?_;·cases lo with|none=>rfl|some v=>exact Eb v n 0
 ·cases hi with|none=>rfl|some v=>exact Eb v n n
theorem Bn(i j:Nat):Builtin.Slice.slicePlaces (i:Int) (j:Int) 1=j-i:=by
 unfold Builtin.Slice.slicePlaces;have h1:(1:Int)>0:=by lia
 simp only[h1,if_true,Int.ediv_one];split<;>lia
theorem uu{v:Value}{o:Option Int}{Q:Option Int->Shared->Prop}(p:IsPart v o)(h:Q o s):wpAny (model prog w) A (Builtin.Slice.slicePartIndex v) Q E s:=by cases p with|none=>exact slicePart_none h|int i t=>exact slicePart_int h
theorem gH{sl:Addr}{c d:Value}{lo hi:Option Int}{n:Nat}{Q:Int×Int×Nat->Shared->Prop}(e:s.heap.IsSliceOf sl c d .none)(pl:IsPart c lo)(f:IsPart d hi)(h:Q (((cZ n 0 lo:Nat):Int),1,cZ n n hi-cZ n 0 lo) s):wpAny (model prog w) A (Builtin.Slice.sliceApplied (.ref sl) (pure (n:Int))) Q E s:=by obtain⟨os,b,g,a⟩:=id e;unfold Builtin.Slice.sliceApplied Builtin.Slice.sliceFields;refine aw (aw (wpAny_field b a (x:=c) rfl (aw (wpAny_field b a (x:=d) rfl (aw (wpAny_field b a (x:= .none) rfl (bf ?_)))))));refine aw (slicePart_none ?_);show wpAny _ _ (if((1:Int)==0)=true then _ else _) _ _ s;rw[if_neg (by decide)];refine aw (uu pl (aw (uu f (aw (bf ?_)))));show wpAny _ _ (match Builtin.Slice.sliceAdjust lo hi 1 (n:Int)with|(lo,hi)=>pure (lo,(1:Int),Builtin.Slice.slicePlaces lo hi 1)) _ _ s;rw[Bk lo hi n];show wpAny _ _ (pure (((cZ n 0 lo:Nat):Int),(1:Int),Builtin.Slice.slicePlaces ((cZ n 0 lo:Nat):Int) ((cZ n n hi:Nat):Int) 1)) _ _ s;rw[Bn];exact bf h
theorem Ie(xs:Array Value)(i k:Nat):((List.range k).filterMap λ(m:Nat)=>xs[((i:Int)+(m:Int)*1).toNat]?).toArray=((xs.toList.drop i).take k).toArray:=by
 have e:(λ(m:Nat)=>xs[((i:Int)+(m:Int)*1).toNat]?)=λm=>xs[i+m]?:=by
  funext m;have :((i:Int)+(m:Int)*1).toNat=i+m:=by lia
  rw[this]
 rw[e];have :=pick_run xs i k;rw[List.filterMap_map]at this;have a:((λx=>xs[x]?)∘λx=>i+x)=λm=>xs[i+m]?:=rfl;rw[a]at this;rw[this]
theorem kI{t sl:Addr}{items:Array Value}{c d:Value}{lo hi:Option Int}{Q:Value->Shared->Prop}(ht:IsTup s.heap t items)(b:s.heap.IsSliceOf sl c d .none)(pl:IsPart c lo)(j:IsPart d hi)(hw:¬(cZ items.size 0 lo=0/\cZ items.size items.size hi=items.size))(h:Q (.ref s.heap.objs.size) {s with heap:=s.heap.push {cls:= .type "tuple",data:= .seq ((items.toList.drop (cZ items.size 0 lo)).take (cZ items.size items.size hi-cZ items.size 0 lo)).toArray}})(n:items.size<=sizeLine):wpAny (model prog w) A (getItem (.ref t) (.ref sl)) Q E s:=by
 have a:sizeOk (.seq ((items.toList.drop (cZ items.size 0 lo)).take (cZ items.size items.size hi-cZ items.size 0 lo)).toArray):=by show((items.toList.drop (cZ items.size 0 lo)).take (cZ items.size items.size hi-cZ items.size 0 lo)).toArray.size<=sizeLine;rw[dt,dU,dJ,Array.length_toList];lia
 have l:cZ items.size items.size hi<=items.size:=Ju _ _ (bB _) hi;obtain⟨os,i,f,k⟩:=id b;have e:s.TypeIs (.ref sl) "slice":=⟨os,i,f⟩;unfold getItem;try with_reducible refine wpAny_holding ?_
 first|refine aw (bf ?_)|skip
 refine aw (wpAny_sequenceKey ht.typeIs (by decide) ?_);refine aw (wpAny_callSpecial?_slot (name:=Str.ofString "__getitem__") ht.typeIs PyProof.Rows.slot_tuple_getitem (wpAny_call_entry PyProof.Rows.slot_tuple_getitem ht.typeIs entry_tuple_getitem ?_ (args_tuple_getitem _ _)));show wpAny _ _ (Builtin.Tuple.tupleItemsOf (.ref t)>>=_) _ _ s;refine aw (tupleItemsOf_ ht ?_);refine aw (wpAny_typeOf e ?_);rw[if_pos (by decide)];refine aw (gH b pl j ?_);have g:¬((((cZ items.size 0 lo:Nat):Int)==0&&(1:Int)==1&&(cZ items.size items.size hi-cZ items.size 0 lo)==items.size)=true):=by intro q;rw[bW,bW]at q;have o:((cZ items.size 0 lo:Nat):Int)=0:=eq_of_beq q.1.1;have p:cZ items.size items.size hi-cZ items.size 0 lo=items.size:=eq_of_beq q.2;exact hw ⟨by lia,by lia⟩
 show wpAny _ _ (if(((cZ items.size 0 lo:Nat):Int)==0&&(1:Int)==1&&(cZ items.size items.size hi-cZ items.size 0 lo)==items.size)=true then _ else _) _ _ s;rw[if_neg g,Ie];first|exact aw (m:=Builtin.Tuple.tupleExact _) (wpAny_newObj_type (bf ⟨_,rfl,bf h⟩) a)|exact aw (m:=Builtin.Tuple.tupleExact _) (wpAny_newObj_type (aw (bf (bf ⟨_,rfl,bf h⟩))) a)|exact aw (aw (m:=Builtin.Tuple.tupleExact _) (wpAny_newObj_type (bf (bf ⟨_,rfl,bf h⟩)) a))|exact aw (aw (m:=Builtin.Tuple.tupleExact _) (wpAny_newObj_type (bf ⟨_,rfl,bf h⟩) a))
end
end HT
end
section
namespace L2
open PySem PySem.Spec PyProof.Rows
noncomputable abbrev TO:=St->Hp->(Option Int->Hp->Prop)->Prop
noncomputable def PO(X:Cx)(e:Option Expr)(t:TO):Prop:=∀(pins:List (Addr×Obj))(s:Shared)(σ:St)(H:Hp)(Q:Option Int->Hp->Prop),Inv X pins σ H s->t σ H Q->wpAny (model X.prog X.w) X.A (evalPart e X.env) (λu s'=>∃o H',Inv X pins σ H' s'/\IsPart u o/\Q o H') X.xe s
noncomputable def gZ:TO:=λ_ H Q=>Q none H
noncomputable def kz(t:TE):TO:=λσ H Q=>t σ H λx a=>∃i,x= .int i/\Q (some i) a
section
variable{X:Cx}{e:Expr}{te:TE}{lo hi:Option Expr}{tl th:TO}{pos p2:Pos}
theorem bH:PO X none gZ:=by intro pins s σ H Q I h;rw[evalPart_none];exact bf ⟨none,H,I, .none,h⟩
theorem bp(h:PE X e te):PO X (some e) (kz te):=by intro pins s σ H Q I hw;rw[evalPart_some];refine bR (h pins s σ H _ I hw) λu s1 f=>?_;obtain⟨x,a,b,d,c⟩:=f;obtain⟨i,rfl,q⟩:=c;obtain⟨t,rfl⟩:=d;exact⟨some i,a,b, .int i t,q⟩
noncomputable def Za(X:Cx)(r:V->Option Int->Option Int->Hp->VK->Prop):Prop:=∀(pins:List (Addr×Obj))(s:Shared)(σ:St)(H:Hp)(x:V)(v a b:Value)(lo hi:Option Int)(sl:Addr)(Q:VK),Inv X pins σ H s->RelV x v->s.heap.IsSliceOf sl a b .none->IsPart a lo->IsPart b hi->r x lo hi H Q->∃T id,typeLookup (.type T) "__getitem__"=pure (some (.builtin id))/\s.TypeIs v T/\wpAny (model X.prog X.w) X.A (getItem v (.ref sl)) (EP X pins σ Q) X.xe s
noncomputable def NU(r:V->Option Int->Option Int->Hp->VK->Prop)(te:TE)(tl th:TO):TE:=λσ H Q=>te σ H λx a=>tl σ a λl b=>th σ b λu c=>r x l u c Q
theorem bI{r:V->Option Int->Option Int->Hp->VK->Prop}(y:Za X r)(t:PE X e te)(hl:PO X lo tl)(z:PO X hi th):PE X (.Subscript e (.Slice lo hi none p2) pos) (NU r te tl th):=by intro pins s σ H Q I h;refine Subscript_ (bR (t pins s σ H _ I h) λv s1 f=>?_);obtain⟨x,i,k,E,B⟩:=f;refine wpAny_Slice (bR (hl pins s1 σ i _ k B) λc s2⟨l,j,m,pl,C⟩=>bR (z pins s2 σ j _ m C) λd a f=>?_);obtain⟨u,g,n,A,D⟩:=f;rw[evalPart_none];refine bf ?_;have o:Inv X pins σ g {a with heap:=a.heap.push {cls:= .type "slice",data:= .fields #[c,d, .none]}}:=n.kept (t':=a.toks) λb ob q=>cW _ q;obtain⟨T,id,p,ht,w⟩:=y pins {a with heap:=a.heap.push {cls:= .type "slice",data:= .fields #[c,d, .none]}} σ g x v c d l u a.heap.objs.size Q o E (Heap.IsSliceOf.new ..) pl A D;show wpAny (model X.prog X.w) X.A (subscriptTail e (.Slice lo hi none p2) v (.ref a.heap.objs.size)) (EP X pins σ Q) X.xe {a with heap:=a.heap.push {cls:= .type "slice",data:= .fields #[c,d, .none]}};exact tail_any (ops:=[.ref a.heap.objs.size,v]) ht p w (by with_unfolding_all rfl)
noncomputable def eG(xs:List V)(lo hi:Option Int):List V:=(xs.drop (HT.cZ xs.length 0 lo)).take (HT.cZ xs.length xs.length hi-HT.cZ xs.length 0 lo)
theorem ng(xs:List V)(lo hi:Option Int):(eG xs lo hi).length<=xs.length:=by unfold eG;rw[dU,dJ];lia
noncomputable def aax(K:PySem.W.Frag):V->Option Int->Option Int->Hp->VK->Prop:=λx lo hi H Q=>∃a xs,x= .ref a/\gG K H a xs/\¬(HT.cZ xs.length 0 lo=0/\HT.cZ xs.length xs.length hi=xs.length)/\∀p,H p=none->Q (.ref p) (upd H p (.tup (eG xs lo hi)))
theorem Q_:Za X (aax X.K):=by
 intro pins s σ H x v j k lo hi sl Q I i d pl g h;obtain⟨a,xs,rfl,f,hw,q⟩:=h;cases i;obtain⟨its,r,ht,c⟩:=I.tuple f;have hlen:its.toArray.size=xs.length:=by rw[dt];exact r.length.symm
 refine⟨"tuple",_,PyProof.Rows.slot_tuple_getitem.lookup,ht.typeIs,?_⟩;refine HT.kI ht d pl g (by rw[hlen];exact hw) ?_ (by rw[hlen];exact c);rw[hlen];refine⟨.ref s.heap.objs.size,_,I.laid (t':=s.toks) (o:= .tup (eG xs lo hi)) (λb ob q=>cW _ q) (bB _) ?_,rfl,q _ (I.cI.fresh (bB _))⟩;exact⟨dI (ng xs lo hi) c,_,(r.drop (HT.cZ xs.length 0 lo)).take (HT.cZ xs.length xs.length hi-HT.cZ xs.length 0 lo),IsTup.new _ _⟩
noncomputable def Yc(K:PySem.W.Frag):R2:=λx y H Q=>∃a b xs ys,x= .ref a/\y= .ref b/\gG K H a xs/\gG K H b ys/\xs≠[]/\xs.length+ys.length<=sizeLine/\(ys=[]->Q (.ref a) H)/\(ys≠[]->∀p,H p=none->Q (.ref p) (upd H p (.tup (xs++ys))))
theorem Vals.pM{xs:List V}{us:List Value}(r:Vals xs us):us=[]↔xs=[]:=by cases r with|nil=>simp|cons _ _=>simp
theorem MS:jo X (binaryOp .Add) (Yc X.K):=by intro pins s σ H x y v u Q I l m h;obtain⟨a,b,xs,ys,rfl,rfl,ha,hb,g,f,j,k⟩:=h;cases l;cases m;obtain⟨its,d,i,_⟩:=I.tuple ha;obtain⟨n,c,p2,_⟩:=I.tuple hb;refine HT.Mt i p2 (λz=>g (d.pM.mp z)) (λz=>⟨.ref a,H,I,rfl,j (c.pM.mp z)⟩) (λz=>?_) (by rw[<-d.length,<-c.length];exact f);refine⟨.ref s.heap.objs.size,_,I.laid (t':=s.toks) (o:= .tup (xs++ys)) (λb ob q=>cW _ q) (bB _) ?_,rfl,k (λw=>z (c.pM.mpr w)) _ (I.cI.fresh (bB _))⟩;exact⟨by rw[cx];exact f,_,d.append c,IsTup.new _ _⟩
end
noncomputable def Mf(n:Nat)(i:Int):Option Nat:=if 0<=i then(if i<n then some i.toNat else none)else if-(n:Int)<=i then some (i+n).toNat else none
noncomputable def zj{a:Type}(xs:List a)(i:Int):Option a:=(Mf xs.length i).bind λj=>xs[j]?
theorem Ds{n:Nat}{i:Int}{j:Nat}(h:Mf n i=some j):seqIndex? i n=some j/\j<n/\-(n:Int)<=i/\i<n:=by
 unfold Mf at h;by_cases a:0<=i
 ·rw[if_pos a]at h;by_cases h1:i<n;·rw[if_pos h1]at h;have e:i.toNat=j:=Option.some.inj h;exact⟨by rw[seqIndex_of a h1,e],by lia,by lia,h1⟩
  ·rw[if_neg h1]at h;cases h
 ·rw[if_neg a]at h;by_cases h1:-(n:Int)<=i;·rw[if_pos h1]at h;have e:(i+n).toNat=j:=Option.some.inj h;exact⟨by rw[seqIndex_neg (by lia) h1,e],by lia,h1,by lia⟩
  ·rw[if_neg h1]at h;cases h
theorem yX{a:Type}{xs:List a}{i:Int}{v:a}(h:zj xs i=some v):∃j,seqIndex? i xs.length=some j/\xs[j]?=some v/\j<xs.length/\-(xs.length:Int)<=i/\i<xs.length:=by unfold zj at h;cases e:Mf xs.length i with|none=>rw[e]at h;cases h|some j=>rw[e]at h;obtain⟨h1,h2,h3,h4⟩:=Ds e;exact⟨j,h1,h,h2,h3,h4⟩
theorem aG{a:Type}{xs:List a}{j:Nat}{v:a}(h:xs[j]?=some v):zj xs (j:Int)=some v:=by
 have b:j<xs.length:=(List.getElem?_eq_some_iff.mp h).1;have e:Mf xs.length (j:Int)=some j:=by unfold Mf;rw[if_pos (by lia),if_pos (by lia)];simp
 unfold zj;rw[e];exact h
theorem IB{a:Type}(xs:List a)(v:a):zj (xs++[v]) (-1)=some v:=by
 have hl:(xs++[v]).length=xs.length+1:=by simp
 have e:Mf (xs++[v]).length (-1)=some xs.length:=by unfold Mf;rw[hl,if_neg (by decide),if_pos (by lia)];congr 1;lia
 unfold zj;rw[e];show(xs++[v])[xs.length]?=some v;simp
def Md(b:Expr):Prop:=∀o i,subscripted b false o i=operate [o,i] (getItem o i)
noncomputable def Vu(X:Cx)(r:R2):Prop:=∀(value slice:Expr)(pins:List (Addr×Obj))(s:Shared)(σ:St)(H:Hp)(x y:V)(v u:Value)(Q:VK),Inv X pins σ H s->RelV x v->RelV y u->r x y H Q->subscripted slice false v u=operate [v,u] (getItem v u)->wpAny (model X.prog X.w) X.A (subscriptTail value slice v u) (EP X pins σ Q) X.xe s
noncomputable def Zb(X:Cx)(id:String)(r:V->List V->Hp->VK->Prop):Prop:=∀(pins:List (Addr×Obj))(s:Shared)(σ:St)(H:Hp)(x:V)(xs:List V)(v:Value)(us:List Value)(Q:VK),Inv X pins σ H s->RelV x v->Vals xs us->r x xs H Q->wpAny (model X.prog X.w) X.A (call (.builtin id) (v::us)) (EP X pins σ Q) X.xe s
section
variable{X:Cx}{a b:Expr}{ta tb:TE}{pos:Pos}
theorem aZ{r:R2}(e:Vu X r)(ha:PE X a ta)(hb:PE X b tb)(f:Md b):PE X (.Subscript a b pos) (fJ r ta tb):=by intro pins s σ H Q I h;exact Subscript_ (Qs ha hb I h λv u s2 x y c d g i q=>e a b pins s2 σ c x y v u Q d g i q (f _ _))
noncomputable def BJ(K:PySem.W.Frag):R2:=λx y H Q=>∃p xs i v,x= .ref p/\y= .int i/\bj K H p xs/\zj xs i=some v/\Q v H
noncomputable def Rm(K:PySem.W.Frag):R2:=λx y H Q=>∃p xs i v,x= .ref p/\y= .int i/\gG K H p xs/\zj xs i=some v/\Q v H
noncomputable def Vb:R2:=λx y H Q=>∃z i c,x= .str z/\y= .int i/\z.length<=sizeLine/\zj z.cps.toList i=some c/\Q (.str ⟨#[c]⟩) H
theorem aP:Vu X (BJ X.K):=by
 intro value slice pins s σ H x y v u Q I l m h f;obtain⟨p,xs,i,z,rfl,rfl,hq,g,q⟩:=h;cases l;obtain⟨t,rfl⟩:=m;obtain⟨its,r,pl,n⟩:=I.list hq;obtain⟨j,h1,h2,h3,h4,h5⟩:=yX g;obtain⟨w,d,k⟩:=r.get h2;have hl:=r.length;have hn:=lM;have fin:EP X pins σ Q w s:=⟨z,H,I,k,q⟩;by_cases e:0<=i
 ·have c:i.toNat=j:=by rw[seqIndex_of e h5]at h1;exact Option.some.inj h1
  exact item_listR pl.isList e (by lia) (by rw[c];simpa using d) fin f
 ·have c:(i+(its.toArray.size:Int)).toNat=j:=by rw[seqIndex_neg (by lia) h4]at h1;rw[dt,<-hl];exact Option.some.inj h1
  exact subscriptTail_builtinR (x:=w) pl.isList.typeIs slot_list_getitem.lookup (wpAny_getItem_list_neg (Q:=λr s'=>r=w/\EP X pins σ Q r s') pl.isList (by lia) (by rw[dt]<;>lia) (by lia) (by rw[c];simpa using d) ⟨rfl,fin⟩) f
theorem gV:Vu X (Rm X.K):=by intro value slice pins s σ H x y v u Q I g k h e;obtain⟨p,xs,i,z,rfl,rfl,hq,d,q⟩:=h;cases g;obtain⟨t,rfl⟩:=k;obtain⟨its,r,pl,l⟩:=I.tuple hq;obtain⟨j,h1,h2,h3,h4,h5⟩:=yX d;obtain⟨w,c,f⟩:=r.get h2;have hl:=r.length;have hn:=lM;have fin:EP X pins σ Q w s:=⟨z,H,I,f,q⟩;exact subscriptTail_builtinR (x:=w) pl.typeIs slot_tuple_getitem.lookup (getItem_tuple (j:=j) (Q:=λr s'=>r=w/\EP X pins σ Q r s') pl (by lia) (by lia) (by rw[dt,<-hl];exact h1) (by simpa using c) ⟨rfl,fin⟩) e
theorem lW:Vu X Vb:=by
 intro value slice pins s σ H x y v u Q I k l h g;obtain⟨z,i,c,rfl,rfl,m,f,q⟩:=h;obtain⟨t,rfl⟩:=k;obtain⟨t',rfl⟩:=l;obtain⟨j,h1,h2,h3,h4,h5⟩:=yX f;have hl:z.cps.toList.length=z.length:=by simp[Str.length]
 rw[hl]at h1 h4 h5;have hn:=lM;exact tail_any (typeIs_str s z t) slot_str_getitem.lookup (getItem_str (c:=c) (by have d:decide (i< -(2^63:Int))=false:=decide_eq_false (by lia);have e:decide (i>=2^63)=false:=decide_eq_false (by lia);rw[d,e,Bool.or_false]) (by rw[h1];simpa using h2) ⟨.str ⟨#[c]⟩,H,I.tok _,⟨_,rfl⟩,q⟩) g
theorem BK(its:List Value)(n j:Nat)(u:Value):Obj.mapSeq (·.setIfInBounds j u) {cls:= .type "list",data:= .seq its.toArray n}={cls:= .type "list",data:= .seq (its.set j u).toArray n}:=by simp[Obj.mapSeq]
theorem Inv.lst{pins:List (Addr×Obj)}{σ:St}{H:Hp}{s:Shared}{p:Addr}{xs:List V}(I:Inv X pins σ H s)(h:H p=some (.lst xs)):∃(its:List Value)(n:Nat),Vals xs its/\s.heap.get? p=some {cls:= .type "list",data:= .seq its.toArray n}/\xs.length<=sizeLine:=by obtain⟨z,its,n,r,e⟩:=I.cI p _ h;exact⟨its,n,r,e,z⟩
theorem Inv.SJ{pins:List (Addr×Obj)}{σ:St}{H:Hp}{s:Shared}{p:Addr}{xs ys:List V}{its its':List Value}{n c:Nat}{f:Obj->Obj}(I:Inv X pins σ H s)(h:H p=some (.lst xs))(g:s.heap.get? p=some {cls:= .type "list",data:= .seq its.toArray n})(d:f {cls:= .type "list",data:= .seq its.toArray n}={cls:= .type "list",data:= .seq its'.toArray c})(r:Vals ys its')(i:ys.length<=sizeLine)(t:Nat):Inv X pins σ (upd H p (.lst ys)) {s with heap:=s.heap.update p f,toks:=t}:=by
 have e:(s.heap.update p f).get? p=some {cls:= .type "list",data:= .seq its'.toArray c}:=by rw[Heap.get?_update_self f g (by rw[d]<;>rfl),d]
 refine I.write (x:=p) (e:=p) (by rw[h];trivial) (.inl rfl) (λb u hb q=>(jj _ _ (Ne.symm hb)).trans q) ⟨_,e⟩ ?_;exact⟨i,its',c,r,e⟩
noncomputable def VF:V->V->V->Hp->(Hp->Prop)->Prop:=λo i v H Q=>∃p xs k j,o= .ref p/\i= .int k/\H p=some (.lst xs)/\Mf xs.length k=some j/\Q (upd H p (.lst (xs.set j v)))
theorem set_list:Xp X VF:=by
 intro pins s σ H o i v A z u Q I x w y h;obtain⟨p,xs,k,j,rfl,rfl,g,l,q⟩:=h;cases x;obtain⟨t,rfl⟩:=w;obtain⟨its,n,r,d,m⟩:=I.lst g;obtain⟨h1,h2,h3,h4⟩:=Ds l;have hl:=r.length;have hn:=lM;have e:Inv X pins σ (upd H p (.lst (xs.set j v))) {s with heap:=s.heap.update p (Obj.mapSeq (·.setIfInBounds j u))}:=I.SJ g d (BK its n j u) (r.set y j) (by rw[List.length_set];exact m) s.toks;by_cases f:0<=k
 ·have c:k.toNat=j:=by rw[seqIndex_of f h4]at h1;exact Option.some.inj h1
  exact PySem.W.ki_setAt d f (by lia) (by rw[dt,<-hl];exact h4) (by rw[c];exact⟨_,e,q⟩)
 ·have c:(k+(its.toArray.size:Int)).toNat=j:=by rw[seqIndex_neg (by lia) h3]at h1;rw[dt,<-hl];exact Option.some.inj h1
  exact PySem.W.ki_setBack d (by lia) (by rw[dt,<-hl];exact h3) (by lia) (by rw[c];exact⟨_,e,q⟩)
theorem kj(lo hi:Option Int)(n:Nat):(sliceBounds lo hi none n).1=((HT.cZ n 0 lo:Nat):Int)/\(sliceBounds lo hi none n).2.1=((HT.cZ n n hi:Nat):Int)/\(sliceBounds lo hi none n).2.2=1:=by
 refine⟨?_,?_,rfl⟩
 ·cases lo with
   |none=>simp[sliceBounds,HT.cZ]
   |some i=>
    simp only[sliceBounds,HT.cZ,Option.getD_none,show(1:Int)>0 by decide,if_true];by_cases h:i<0;·simp only[h,if_true]<;>lia
    ·simp only[h,if_false]<;>lia
 ·cases hi with
   |none=>simp[sliceBounds,HT.cZ]
   |some i=>
    simp only[sliceBounds,HT.cZ,Option.getD_none,show(1:Int)>0 by decide,if_true];by_cases h:i<0;·simp only[h,if_true]<;>lia
    ·simp only[h,if_false]<;>lia
theorem vo(its:List Value)(lo hi:Option Int):slicePick its.toArray lo hi none=((its.drop (HT.cZ its.length 0 lo)).take (HT.cZ its.length its.length hi-HT.cZ its.length 0 lo)).toArray:=by obtain⟨h1,h2,h3⟩:=kj lo hi its.toArray.size;unfold slicePick;rw[h1,h2,h3];simp only[sliceRange_one,pick_run,dt]<;>rfl
noncomputable def zC(K:PySem.W.Frag):V->Option Int->Option Int->Hp->VK->Prop:=λx lo hi H Q=>∃a xs,x= .ref a/\bj K H a xs/\∀p,H p=none->Q (.ref p) (upd H p (.lst (eG xs lo hi)))
theorem cA:Za X (zC X.K):=by intro pins s σ H x v i j lo hi sl Q I g c pl f h;obtain⟨a,xs,rfl,d,q⟩:=h;cases g;obtain⟨its,r,ht,e⟩:=I.list d;have hlen:=r.length;refine⟨"list",_,slot_list_getitem.lookup,ht.isList.typeIs,?_⟩;refine wpAny_getItem_list_slice ht.isList c pl f .none (by simp) ?_ (by rw[dt]<;>lia);rw[vo,<-hlen];refine⟨.ref s.heap.objs.size,_,I.laid (t':=s.toks) (o:= .lst (eG xs lo hi)) (λb ob q=>cW _ q) (bB _) ?_,rfl,q _ (I.cI.fresh (bB _))⟩;exact⟨dI (ng xs lo hi) e,_,0,(r.drop (HT.cZ xs.length 0 lo)).take (HT.cZ xs.length xs.length hi-HT.cZ xs.length 0 lo),gU _ rfl⟩
noncomputable def gA:V->Bool| .bU=>true| .bl _=>true| .int _=>true| .str _=>true|_=>false
noncomputable def Gd:V->V->Bool| .bU, .bU=>true| .bl a, .bl b=>a==b| .bl a, .int b=>(if a then 1 else 0)==b| .int a, .bl b=>a==(if b then 1 else 0)| .int a, .int b=>a==b| .str a, .str b=>a==b|_,_=>false
theorem Cd{A:Around}{s:Shared}{y x:V}{u v:Value}(e:RelV y u)(c:RelV x v)(f:gA y=true)(d:gA x=true):SeqAt.EqAt A s u v (Gd y x):=by
 cases y with
  |bU=>cases e;cases x with|bU=>cases c;exact SeqAt.EqAt.same _|bl b=>cases c;exact SeqAt.EqAt.none_bool b|int b=>obtain⟨t,rfl⟩:=c;exact SeqAt.EqAt.none_int b t|str b=>obtain⟨t,rfl⟩:=c;exact SeqAt.EqAt.none_str b t|_=>exact absurd (show false=true from d) fw
  |bl a=>cases e;cases x with|bU=>cases c;exact SeqAt.EqAt.bool_none a|bl b=>cases c;exact SeqAt.EqAt.bool_bool a b|int b=>obtain⟨t,rfl⟩:=c;exact SeqAt.EqAt.bool_int a b t|str b=>obtain⟨t,rfl⟩:=c;exact SeqAt.EqAt.bool_str a b t|_=>exact absurd (show false=true from d) fw
  |int a=>obtain⟨t',rfl⟩:=e;cases x with|bU=>cases c;exact SeqAt.EqAt.int_none a t'|bl b=>cases c;exact SeqAt.EqAt.int_bool a t' b|int b=>obtain⟨t,rfl⟩:=c;exact SeqAt.EqAt.int_int a t' b t|str b=>obtain⟨t,rfl⟩:=c;exact SeqAt.EqAt.int_str a t' b t|_=>exact absurd (show false=true from d) fw
  |str a=>obtain⟨t',rfl⟩:=e;cases x with|bU=>cases c;exact SeqAt.EqAt.str_none a t'|bl b=>cases c;exact SeqAt.EqAt.str_bool a t' b|int b=>obtain⟨t,rfl⟩:=c;exact SeqAt.EqAt.str_int a t' b t|str b=>obtain⟨t,rfl⟩:=c;exact SeqAt.EqAt.str_str a t' b t|_=>exact absurd (show false=true from d) fw
  |_=>exact absurd (show false=true from f) fw
noncomputable def BY(x:V)(u:Value):Bool:=match u with| .none=>Gd .bU x| .bool b=>Gd (.bl b) x| .int i _=>Gd (.int i) x| .str z _=>Gd (.str z) x|_=>false
theorem KW{x y:V}{u:Value}(r:RelV y u)(f:gA y=true):BY x u=Gd y x:=by cases y with|bU=>cases r;rfl|bl b=>cases r;rfl|int i=>obtain⟨t,rfl⟩:=r;rfl|str z=>obtain⟨t,rfl⟩:=r;rfl|_=>exact absurd (show false=true from f) fw
theorem kW{x:V}:∀{xs:List V}{us:List Value},Vals xs us->xs.all gA=true->us.any (BY x)=xs.any λy=>Gd y x|_,_, .nil,_=>rfl|y::xs,u::us, .cons r t,f=>by rw[List.all_cons,bW]at f;rw[List.any_cons,List.any_cons,KW r f.1,kW t f.2]
theorem iL{A:Around}{s:Shared}{x:V}{v:Value}(e:RelV x v)(d:gA x=true):∀{xs:List V}{us:List Value},Vals xs us->xs.all gA=true->∀u∈us,SeqAt.EqAt A s u v (BY x u)
 |_,_, .nil,_=>λu c=>by cases c
 |y::xs,u::us, .cons r t,f=>λg c=>by
  rw[List.all_cons,bW]at f;rcases List.mem_cons.mp c with rfl|c;·rw[KW r f.1];exact Cd r e f.1 d
  ·exact iL e d t f.2 g c
noncomputable def Ph(x:V)(xs:List V):Bool:=xs.any λy=>Gd y x
noncomputable def rIn(K:PySem.W.Frag)(neg:Bool):R2:=λx y H Q=>∃p xs,y= .ref p/\(bj K H p xs\/gG K H p xs)/\gA x=true/\xs.all gA=true/\Q (.bl (if neg then !Ph x xs else Ph x xs)) H
theorem dX:jo X (compareOp .In) (rIn X.K false):=by
 intro pins s σ H x y v u Q I d f h;obtain⟨p,xs,rfl,hq,c,fs,q⟩:=h;cases f;rcases hq with hq|hq;·obtain⟨its,r,pl,e⟩:=I.list hq;refine SeqAt.in_listAt (BY x) pl.isList (λw hw=>iL d c r fs w (by simpa using hw)) ⟨.bl _,H,I,rfl,?_⟩;rw[show its.toArray.any (BY x)=its.any (BY x)by simp,kW r fs];exact q
 ·obtain⟨its,r,pl,e⟩:=I.tuple hq;refine SeqAt.in_tupleAt (BY x) pl (λw hw=>iL d c r fs w (by simpa using hw)) ⟨.bl _,H,I,rfl,?_⟩;rw[show its.toArray.any (BY x)=its.any (BY x)by simp,kW r fs];exact q
theorem kl:jo X (compareOp .NotIn) (rIn X.K true):=by
 intro pins s σ H x y v u Q I d f h;obtain⟨p,xs,rfl,hq,c,fs,q⟩:=h;cases f;rcases hq with hq|hq;·obtain⟨its,r,pl,e⟩:=I.list hq;refine SeqAt.notIn_listAt (BY x) pl.isList (λw hw=>iL d c r fs w (by simpa using hw)) ⟨.bl _,H,I,rfl,?_⟩;rw[show its.toArray.any (BY x)=its.any (BY x)by simp,kW r fs];exact q
 ·obtain⟨its,r,pl,e⟩:=I.tuple hq;refine SeqAt.notIn_tupleAt (BY x) pl (λw hw=>iL d c r fs w (by simpa using hw)) ⟨.bl _,H,I,rfl,?_⟩;rw[show its.toArray.any (BY x)=its.any (BY x)by simp,kW r fs];exact q
theorem aL:fA X (.builtin "len") (λxs H Q=>∃p ys,xs=[.ref p]/\(bj X.K H p ys\/gG X.K H p ys)/\Q (.int ys.length) H):=by
 intro pins s σ H xs us Q I r h;obtain⟨p,ys,rfl,hq,q⟩:=h;obtain⟨u,rfl,e⟩:=vals1 r;cases e;have hn:=lM;rcases hq with hq|hq;·obtain⟨its,c,pl,d⟩:=I.list hq;have hlen:=c.length;exact Calls.call_len_list pl.isList (by simp only[dt]<;>lia) ⟨.int ys.length,H,I.tok _,⟨s.toks+1,by rw[dt,hlen]⟩,q⟩
 ·obtain⟨its,c,pl,d⟩:=I.tuple hq;have hlen:=c.length;exact len_tuple pl (by simp only[dt]<;>lia) ⟨.int ys.length,H,I.tok _,⟨s.toks+1,by rw[dt,hlen]⟩,q⟩
theorem fI:fA X (.builtin "len") (λxs H Q=>∃z,xs=[.str z]/\z.length<=sizeLine/\Q (.int z.length) H):=by intro pins s σ H xs us Q I r h;obtain⟨z,rfl,c,q⟩:=h;obtain⟨u,rfl,t,rfl⟩:=vals1 r;have hn:=lM;exact len_str (by lia) ⟨.int z.length,H,I.tok _,⟨_,rfl⟩,q⟩
theorem yD:fA X (.type "list") (λxs H Q=>∃p ys,xs=[.ref p]/\(bj X.K H p ys\/gG X.K H p ys)/\∀l,H l=none->Q (.ref l) (upd H l (.lst ys))):=by
 intro pins s σ H xs us Q I r h;obtain⟨p,ys,rfl,hq,q⟩:=h;obtain⟨u,rfl,i⟩:=vals1 r;cases i;have fin:∀(its:List Value),Vals ys its->ys.length<=sizeLine->∀(h':Heap)(c:Nat),(∀b o',s.heap.get? b=some o'->h'.get? b=some o')->h'.get? s.heap.objs.size=some {cls:= .type "list",dict:=none,data:= .seq its.toArray c,slots:=#[]}->EP X pins σ Q (.ref s.heap.objs.size) {s with heap:=h'}:=λits d f h' c kp e=>⟨.ref s.heap.objs.size,_,I.laid (t':=s.toks) kp (bB _) (show dR X.prog X.w _ h' _ (.lst ys)from⟨f,its,c,d,e⟩),rfl,q _ (I.cI.fresh (bB _))⟩;rcases hq with hq|hq;·obtain⟨its,d,pl,f⟩:=I.list hq;have hlen:=d.length;obtain⟨o,g,hc,n,hd⟩:=pl.isList;exact call_list_seq p (.inl rfl) g hc hd (λh' c kp e=>fin its d f h' c kp e) (by simp only[dt]<;>lia)
 ·obtain⟨its,d,pl,f⟩:=I.tuple hq;have hlen:=d.length;obtain⟨o,g,hc,n,hd⟩:=pl;exact call_list_seq p (.inr rfl) g hc hd (λh' c kp e=>fin its d f h' c kp e) (by simp only[dt]<;>lia)
theorem jy:fA X (.type "tuple") (λxs H Q=>∃p ys,xs=[.ref p]/\((bj X.K H p ys/\∀l,H l=none->Q (.ref l) (upd H l (.tup ys)))\/(gG X.K H p ys/\Q (.ref p) H))):=by
 intro pins s σ H xs us Q I r h;obtain⟨p,ys,rfl,h⟩:=h;obtain⟨u,rfl,i⟩:=vals1 r;cases i;rcases h with⟨hq,q⟩|⟨hq,q⟩;·obtain⟨its,c,pl,f⟩:=I.list hq;have hlen:=c.length;refine call_tuple_list pl.isList (λh' kp=>?_) (by simp only[dt]<;>lia);have d:Inv X pins σ H {s with heap:=h'}:=I.kept (t':=s.toks) kp;have g:Inv X pins σ (upd H h'.objs.size (.tup ys)) {s with heap:=h'.push {cls:= .type "tuple",data:= .seq its.toArray}}:=d.laid (t':=s.toks) (λb o e=>cW _ e) (bB _) (show dR X.prog X.w _ _ _ (.tup ys)from⟨f,its,c,IsTup.new _ _⟩);exact⟨.ref h'.objs.size,_,g,rfl,q _ (d.cI.fresh (bB _))⟩
 ·obtain⟨its,c,pl,f⟩:=I.tuple hq;exact call_tuple_same pl ⟨.ref p,H,I,rfl,q⟩
def tyV(K:PySem.W.Frag)(T:String)(x:V)(H:Hp):Prop:=match x with| .str _=>T="str"| .int _=>T="int"| .ref p=>(T="list"/\∃xs,bj K H p xs)\/(T="tuple"/\∃o,K.lookup p=some o/\o.cls= .type "tuple"/\o.dict=none)\/(T="dict"/\((∃ip,H p=some (.dK ip))\/∃ip,H p=some (.dT ip)))\/(T="set"/\∃S n,H p=some (.set S n))|_=>False
theorem JW{pins:List (Addr×Obj)}{σ:St}{H:Hp}{s:Shared}{T:String}{x:V}{v:Value}(I:Inv X pins σ H s)(r:RelV x v)(ty:tyV X.K T x H):s.TypeIs v T/\∀a,v= .ref a->∃ob,s.heap.get? a=some ob/\ob.dict=none:=by
 cases x with
  |str z=>obtain⟨t,rfl⟩:=r;cases(show T="str"from ty);exact⟨typeIs_str s z t,λ_ e=>nomatch e⟩
  |int i=>obtain⟨t,rfl⟩:=r;cases(show T="int"from ty);exact⟨typeIs_int s i t,λ_ e=>nomatch e⟩
  |ref p=>
   cases r;rcases ty with⟨rfl,xs,hq⟩|⟨rfl,o,d,hc,hd⟩|⟨rfl,d⟩|⟨rfl,S,n,d⟩;·obtain⟨its,_,pl,_⟩:=I.list hq;refine⟨pl.isList.typeIs,λa e=>?_⟩;cases e;obtain⟨o,n,e,c,hd,_⟩:=pl;exact⟨o,e,hd⟩
   ·refine⟨⟨o,I.ic p o d,hc⟩,λa e=>?_⟩;cases e;exact⟨o,I.ic _ o d,hd⟩
   ·have z:∃o,s.heap.get? p=some o/\o.ExactDict:=by
     rcases d with⟨ip,d⟩|⟨ip,d⟩;·obtain⟨_,_,_,_,o,_,_,e,ex,_⟩:=I.cI p _ d;exact⟨o,e,ex⟩
     ·obtain⟨_,_,_,_,o,_,_,e,ex,_⟩:=I.cI p _ d;exact⟨o,e,ex⟩
    obtain⟨o,e,ex⟩:=z;refine⟨⟨o,e,ex.1⟩,λa f=>?_⟩;cases f;exact⟨o,e,ex.2.1⟩
   ·obtain⟨o,_,_,_,e,ex,_⟩:=I.cI p _ d;refine⟨⟨o,e,ex.1⟩,λa f=>?_⟩;cases f;exact⟨o,e,ex.2.1⟩
  |_=>exact False.elim ty
noncomputable def aaX(K:PySem.W.Frag)(T:String)(r:V->List V->Hp->VK->Prop)(to:TE):TE:=λσ H Q=>to σ H λx c=>tyV K T x c/\r x [] c Q
noncomputable def tBM(K:PySem.W.Frag)(T:String)(r:V->List V->Hp->VK->Prop)(to:TE)(t:TA):TE:=λσ H Q=>to σ H λx c=>tyV K T x c/\t σ c λxs d=>r x xs d Q
variable{o e:Expr}{es:List Expr}{to:TE}{t:TA}{name:Str}{apos ee:Pos}{T id:String}{r:V->List V->Hp->VK->Prop}
theorem Sf(l:PlainAttrs T)(slot:Slot T name id)(k:typeOf (.builtin id)=pure (.type "method_descriptor"))(hm:Zb X id r)(j:PE X o to)(g:attributeBase o name X.env (eval o X.env)=eval o X.env:=by rfl)(i:(apos.endLine==ee.line)=true:=by rfl):PE X (.Call (.Attribute o name apos) [] [] ee) (aaX X.K T r to):=by intro pins s σ H Q I h;refine wpAny_Call_method0_late g i (bR (j pins s σ H _ I h) λv s1 n=>?_);obtain⟨x,f,c,d,ty,m⟩:=n;obtain⟨h1,h2⟩:=JW c d ty;exact⟨T,id,l,slot,k,h1,h2,Calls.callWith_builtin rfl (PySem.evalArgs_none (hm pins s1 σ f x [] v [] Q c d .nil m))⟩
theorem mB(w:PlainAttrs T)(slot:Slot T name id)(u:typeOf (.builtin id)=pure (.type "method_descriptor"))(hm:Zb X id r)(n:PE X o to)(ha:PA X (e::es) t)(k:attributeBase o name X.env (eval o X.env)=eval o X.env:=by rfl)(l:((backTo ee (starEach (e::es) X.env)).all (λx=>!x.1)&&(backToKw ee (keywordEach [] X.env)).all (λx=>x.1.isSome)&&decide ((e::es).length+([]:List Keyword).length+(if([]:List Keyword).isEmpty then 0 else 1)<30))=true:=by rfl)(m:(apos.endLine==ee.line)=true:=by rfl)(q:starEach (e::es) X.env=(false,eval e X.env)::starEach es X.env:=by rfl)(p:(backTo ee (starEach es X.env)).any (·.1)=false:=by rfl):PE X (.Call (.Attribute o name apos) (e::es) [] ee) (tBM X.K T r to t):=by intro pins s σ H Q I h;refine wpAny_Call_method_late k l m rfl (bR (n pins s σ H _ I h) λv s1 B=>?_);obtain⟨x,g,c,f,ty,y⟩:=B;obtain⟨h1,h2⟩:=JW c f ty;refine⟨T,id,w,slot,u,h1,h2,?_⟩;have d:=ha ee pins s1 σ g _ c y;rw[q]at d⊢;refine Calls.callWith_builtin (by show(false||(backTo ee (starEach es X.env)).any (·.1))=false;rw[p]<;>rfl) (Calls.evalArgs_plain ?_);exact bR d λus s2⟨vs,i,j,A,z⟩=>hm pins s2 σ i x vs v us Q j f A z
end
noncomputable def MtM(X:Cx)(id:String)(r:V->List V->Hp->VK->Prop):Prop:=∀(pins:List (Addr×Obj))(s:Shared)(σ:St)(H:Hp)(x:V)(xs:List V)(v:Value)(us:List Value)(Q:VK),Inv X pins σ H s->RelV x v->Vals xs us->r x xs H Q->wpAny (model X.prog X.w) X.A (call (.builtin id) (v::us)) (EP X pins σ Q) X.xe s
theorem Vals.one{x:V}{us:List Value}(h:Vals [x] us):∃u,us=[u]/\RelV x u:=by cases h with|cons r e=>cases e;exact⟨_,rfl,r⟩
theorem Vals.two{x y:V}{us:List Value}(h:Vals [x,y] us):∃u v,us=[u,v]/\RelV x u/\RelV y v:=by cases h with|cons r t=>cases t with|cons q e=>cases e;exact⟨_,_,rfl,r,q⟩
theorem Vals.zero:∀{us:List Value},Vals [] us->us=[]|_, .nil=>rfl
theorem Vals.dropLast{xs:List V}{us:List Value}(h:Vals xs us):Vals xs.dropLast us.dropLast:=by induction h with|nil=>exact .nil|cons r t a=>cases t with|nil=>exact .nil|cons q t'=>exact .cons r a
theorem Ca{d:Type}(l:List d):l.eraseIdx (l.length-1)=l.dropLast:=by
 induction l with
  |nil=>rfl
  |cons a r c=>
   cases r with
    |nil=>rfl
    |cons b r=>
     have e:(a::b::r).length-1=((b::r).length-1)+1:=by have h1:(a::b::r).length=r.length+2:=rfl;have h2:(b::r).length=r.length+1:=rfl;lia
     rw[e,List.eraseIdx_cons_succ,c];all_goals rfl
section
variable{X:Cx}{pins:List (Addr×Obj)}{σ:St}{H:Hp}{s:Shared}{l b:Addr}{xs ys zs:List V}
theorem Inv.Tv{its its':List Value}{n:Nat}{f:Array Value->Array Value}{t':Nat}(I:Inv X pins σ H s)(hH:H l=some (.lst xs))(e:s.heap.get? l=some {cls:= .type "list",data:= .seq its.toArray n})(a:f its.toArray=its'.toArray)(d:Vals ys its')(g:ys.length<=sizeLine):Inv X pins σ (upd H l (.lst ys)) {s with heap:=s.heap.update l (Obj.mapSeq f),toks:=t'}:=by have q:=PySem.IsL.update e f;rw[a]at q;refine I.write (x:=l) (e:=l) (by rw[hH];exact trivial) (.inl rfl) (λh u hb c=>(jj s.heap (Obj.mapSeq f) (Ne.symm hb)).trans c) ⟨_,q⟩ ?_;exact⟨g,its',_,d,q⟩
theorem Inv.JJ{its:List Value}{t':Nat}(I:Inv X pins σ H s)(a:Vals ys its)(c:ys.length<=sizeLine):Inv X pins σ (upd H s.heap.objs.size (.lst ys)) {s with heap:=s.heap.push {cls:= .type "list",data:= .seq its.toArray},toks:=t'}:=I.laid (λ_ _ q=>cW _ q) (bB _) ⟨c,its,0,a,gU _ rfl⟩
theorem Inv.fresh(I:Inv X pins σ H s):H s.heap.objs.size=none:=I.cI.fresh (bB _)
theorem Inv.FT(I:Inv X pins σ H s)(hH:H l=some (.lst xs)):xs.length<=sizeLine/\∃(its:List Value)(n:Nat),Vals xs its/\xs.length=its.length/\s.heap.get? l=some {cls:= .type "list",data:= .seq its.toArray n}:=by obtain⟨z,its,n,r,e⟩:=I.cI l _ hH;exact⟨z,its,n,r,r.length,e⟩
theorem Ig{n:Nat}(h:n<=sizeLine):Builtin.List.listTooLong n=false:=by unfold Builtin.List.listTooLong;exact decide_eq_false (by lia)
end
section
variable{X:Cx}
noncomputable def E6:V->List V->Hp->VK->Prop:=λx vs H Q=>∃l xs y,x= .ref l/\vs=[y]/\H l=some (.lst xs)/\xs.length<sizeLine/\Q .bU (upd H l (.lst (xs++[y])))
theorem fL:MtM X "list.append" E6:=by intro pins s σ H x vs v us Q I c b h;obtain⟨l,xs,y,rfl,rfl,hH,d,q⟩:=h;cases c;obtain⟨u,rfl,a⟩:=b.one;obtain⟨z,its,n,r,hl,e⟩:=I.FT hH;refine call_meets F.slot_list_append ⟨_,e,rfl⟩ F.entry_list_append (F.args_list_append_2 _ _) (PySem.list_append l its.toArray n u (by rw[dt];lia)) ⟨e,?_⟩;refine⟨.bU,_,I.Tv (its':=its++[u]) hH e (by simp) (r.append (.cons a .nil)) ?_,rfl,q⟩;rw[cx,List.length_singleton];lia
noncomputable def Nm:V->List V->Hp->VK->Prop:=λx vs H Q=>∃l b xs a,x= .ref l/\vs=[.ref b]/\H l=some (.lst xs)/\H b=some (.lst a)/\xs.length+a.length<=sizeLine/\Q .bU (upd H l (.lst (xs++a)))
theorem Gn:MtM X "list.extend" Nm:=by
 intro pins s σ H x vs v us Q I o m h;obtain⟨l,b,xs,y,rfl,rfl,hH,d,t,q⟩:=h;cases o;obtain⟨u,rfl,k⟩:=m.one;cases k;obtain⟨z,its,n,r,hl,e⟩:=I.FT hH;obtain⟨w,a,i,j,p,c⟩:=I.FT d;have g:its.toArray.size+a.toArray.size<=sizeLine:=by rw[dt,dt];lia
 have f:¬(!its.toArray.isEmpty&&Builtin.List.listTooLong (its.toArray.size+a.toArray.size))=true:=by rw[Ig g,Bool.and_false];exact fw
 refine call_meets F.slot_list_extend ⟨_,e,rfl⟩ F.entry_list_extend (F.args_list_extend_2 _ _) (AutoSeq1.list_extend_list_list_0 l its.toArray n b a.toArray i f (by rw[dt];lia) (by lia)) ⟨e,c,?_⟩;refine⟨.bU,_,I.Tv (its':=its++a) hH e (by simp) (r.append j) ?_,rfl,q⟩;rw[cx];lia
noncomputable def aaA:V->List V->Hp->VK->Prop:=λx vs H Q=>∃l xs y,x= .ref l/\vs=[]/\H l=some (.lst xs)/\xs[xs.length-1]?=some y/\Q y (upd H l (.lst xs.dropLast))
theorem Qy:MtM X "list.pop" aaA:=by
 intro pins s σ H x vs v us Q I i g h;obtain⟨l,xs,y,rfl,rfl,hH,c,q⟩:=h;cases i;have b:=g.zero;subst b;obtain⟨z,its,n,r,hl,e⟩:=I.FT hH;obtain⟨u,a,f⟩:=r.get c;have d:its.toArray[its.toArray.size-1]?=some u:=by show its.toArray[its.length-1]?=some u;rw[<-Array.getElem?_toList,<-hl];exact a
 refine call_meets F.slot_list_pop ⟨_,e,rfl⟩ F.entry_list_pop (F.args_list_pop_1 _) (MeetsSeq.list_pop_last l its.toArray n u d (by rw[dt];lia)) ⟨e,?_⟩;refine⟨y,_,I.Tv (its':=its.dropLast) hH e ?_ r.dropLast ?_,f,q⟩;·show its.toArray.eraseIdxIfInBounds (its.toArray.size-1)=its.dropLast.toArray;rw[dt,List.eraseIdxIfInBounds_toArray,Ca]
 ·rw[List.length_dropLast];lia
noncomputable def gE:R2:=λx y H Q=>∃l b xs a,x= .ref l/\y= .ref b/\H l=some (.lst xs)/\H b=some (.lst a)/\xs.length+a.length<=sizeLine/\∀p,H p=none->Q (.ref p) (upd H p (.lst (xs++a)))
theorem cD:jo X (binaryOp .Add) gE:=by
 intro pins s σ H x y v u Q I i j h;obtain⟨l,b,xs,t,rfl,rfl,hH,f,m,q⟩:=h;cases i;cases j;obtain⟨z,its,n,r,hl,e⟩:=I.FT hH;obtain⟨p,a,o,g,k,c⟩:=I.FT f;refine PySem.P.add_list e c ?_ (by rw[dt,dt];lia);have d:its.toArray++a.toArray=(its++a).toArray:=by simp
 rw[d];exact⟨.ref _,_,I.JJ (t':=s.toks) (r.append g) (by rw[cx];lia),rfl,q _ I.fresh⟩
end
section
variable{prog:Program}{w:World}{A:Around}{E:Value->Shared->Prop}{s:Shared}
end
section
variable{X:Cx}
end
section
variable{κ:Type}[DecidableEq κ]
noncomputable def lU(ip:List (κ×V))(k:κ):Option V:=(ip.find? λa=>decide (a.1=k)).map (·.2)
theorem Lg{p:κ×V}{r:List (κ×V)}{k:κ}(e:p.1=k):lU (p::r) k=some p.2:=by simp[lU,List.find?_cons,e]
theorem HF{p:κ×V}{r:List (κ×V)}{k:κ}(e:¬p.1=k):lU (p::r) k=lU r k:=by simp[lU,List.find?_cons,e]
theorem Ag(k:κ):∀ip:List (κ×V),(ip.any λa=>decide (a.1=k))=(lU ip k).isSome
 |[]=>rfl
 |p::r=>by
  rw[List.any_cons];by_cases e:p.1=k;·simp only[Lg e,decide_eq_true e,Bool.true_or,Option.isSome_some]
  ·rw[HF e,decide_eq_false e,Bool.false_or];exact Ag k r
end
section
variable{P:Program}{w:World}{H:Hp}{h:Heap}{a:Addr}
end
section
variable{X:Cx}{pins:List (Addr×Obj)}{σ:St}{H:Hp}{s:Shared}{a:Addr}{y v:V}{u r:Value}{o:Option V}{A:Around}{E:Value->Shared->Prop}
end
section
variable{X:Cx}{pins:List (Addr×Obj)}{σ:St}{H:Hp}{s:Shared}{a:Addr}{ip:List (Key×V)}{k:Key}{u:Value}{A:Around}{E:Value->Shared->Prop}
end
def Yb(i:Expr):Prop:=∀b a,subscripted i false b a=operate [b,a] (getItem b a)
theorem M6{prog:Program}{w:World}{A:Around}{E:Value->Shared->Prop}{s:Shared}{env:Env}{value slice:Expr}{k:Pos}{T id:String}{Q:Value->Shared->Prop}(hl:typeLookup (.type T) "__getitem__"=pure (some (.builtin id)))(f:Yb slice)(h:wpAny (model prog w) A (eval value env) (λo d=>wpAny (model prog w) A (eval slice env) (λi a=>a.TypeIs o T/\wpAny (model prog w) A (getItem o i) Q E a) E d) E s):wpAny (model prog w) A (eval (.Subscript value slice k) env) Q E s:=by
 refine Subscript_ (fk h (λo d g=>fk g (λi a b=>?_) λ_ _ x=>x) λ_ _ x=>x);obtain⟨c,b⟩:=b;unfold subscriptTail;refine aw ?_;rw[getitemInPython_of_ne c.not_modules];refine aw (wpAny_specialOf c hl ?_);have fin:wpAny (model prog w) A (subscripted slice false o i) (λr e=>wpAny (model prog w) A (letTemporaryGo value o r>>=λ_=>pure r) Q E e) E a:=by rw[f o i];exact wpAny_operating (fk b (λr e j=>aw (wpAny_letTemporaryGo (bf j))) λ_ _ x=>x)
 first|exact bf (aw fin)|exact aw (bf (aw fin))|exact aw fin
section
variable{X:Cx}{o i e value:Expr}{pos pos' ZJ:Pos}{td ty tv:TE}
end
section
variable{X:Cx}{pos:Pos}
end
noncomputable def Kx:List (TE×TE)->St->Hp->(List (V×V)->Hp->Prop)->Prop|[],_,H,Q=>Q [] H|(tk,d)::r,σ,H,Q=>tk σ H λx a=>d σ a λy b=>Kx r σ b λps c=>Q ((x,y)::ps) c
noncomputable abbrev VV:List (V×V)->List (Value×Value)->Prop:=Paired λp q=>RelV p.1 q.1/\RelV p.2 q.2
noncomputable def G3(X:Cx)(a:Pos)(keys:List (Option Expr))(values:List Expr)(b:List (TE×TE)):Prop:=∀(pins:List (Addr×Obj))(s:Shared)(σ:St)(H:Hp)(Q:List (V×V)->Hp->Prop),Inv X pins σ H s->Kx b σ H Q->wpAny (model X.prog X.w) X.A (evalPairs (pairTrees keys values X.env a)) (λvs s'=>∃ps H',Inv X pins σ H' s'/\VV ps vs/\Q ps H') X.xe s
structure M1(X:Cx)(o:Expr)(m:Str)(apos:Pos)(e:Expr)(ee:Pos):Prop where
 base:attributeBase o m X.env (eval o X.env)=eval o X.env
 UG:((backTo ee (starEach [e] X.env)).all (λx=>!x.1)&&(backToKw ee (keywordEach [] X.env)).all (λx=>x.1.isSome)&&decide (([e]:List Expr).length+([]:List Keyword).length+(if([]:List Keyword).isEmpty then 0 else 1)<30))=true
 line:(apos.endLine==ee.line)=true
 trees:backTo ee (starEach [e] X.env)=[(false,eval e X.env)]
structure M2(X:Cx)(o:Expr)(m:Str)(apos:Pos)(e f:Expr)(ee:Pos):Prop where
 base:attributeBase o m X.env (eval o X.env)=eval o X.env
 UG:((backTo ee (starEach [e,f] X.env)).all (λx=>!x.1)&&(backToKw ee (keywordEach [] X.env)).all (λx=>x.1.isSome)&&decide (([e,f]:List Expr).length+([]:List Keyword).length+(if([]:List Keyword).isEmpty then 0 else 1)<30))=true
 line:(apos.endLine==ee.line)=true
 trees:backTo ee (starEach [e,f] X.env)=[(false,eval e X.env),(false,eval f X.env)]
section
variable{X:Cx}{pins:List (Addr×Obj)}{σ:St}{H:Hp}{s:Shared}{a:Addr}{y d:V}{u r:Value}{o:Option V}{A:Around}{E:Value->Shared->Prop}
end
section
variable{X:Cx}{o e f:Expr}{apos ee:Pos}{td ty tx:TE}
end
section
variable{X:Cx}{pins:List (Addr×Obj)}{σ:St}{H:Hp}{s:Shared}{a:Addr}{ip:List (Key×V)}{A:Around}{E:Value->Shared->Prop}
end
section
variable{X:Cx}{pins:List (Addr×Obj)}{σ:St}{H:Hp}{s:Shared}{a:Addr}{y:V}{u:Value}{A:Around}{E:Value->Shared->Prop}
end
end L2
end
section
namespace Att
open PySem PySem.W PySem.Calls PyProof.Rows
theorem n6{P:Params}{h:Heap}:∀(ns:List Int)(vs:List Value),WellAll P h vs (ns.map WData.int)->IntsAre vs ns:=by intro ns;induction ns with|nil=>intro vs w;rw[List.map_nil]at w;cases w;exact .nil|cons n ns c=>intro vs w;rw[gQ]at w;cases w with|cons a b=>cases a;exact .cons _ _ (c _ b)
theorem Gq{l:OpenLaw}{n:Nat}(hn:l.most=some n){P:Params}{h:Heap}{args:List WData}{vals:List Value}(b:l.row.toRowW.claim.pre args=true)(g:WellAll P h vals args):∃a vs ns,vals=[Value.ref a]/\args=[WData.list (ns.map WData.int)]/\h.get? a=some {cls:= .type "list",data:= .seq vs.toArray}/\IntsAre vs ns/\ns.length<=n:=by
 have f:WShape.hasAll [] args [.list .int]=true:=(pre_splitW b).1;have hc:l.pre.holds [] {args:=args}=true:=(pre_splitW b).2;obtain⟨d,r,rfl,h1,h2⟩:=hasAllW_cons f;obtain rfl:=hasAllW_nil h2;obtain⟨xs,rfl,h3⟩:=hasW_list h1;obtain⟨ns,rfl⟩:=items_int h3;have hlen:ns.length<=n:=by
  unfold OpenLaw.pre at hc;have h4:(WTm.not (.lt (.lit (.int (n:Int))) (.len (.arg 0)))).holds [] {args:=[.list (ns.map .int)]}=true:=by have h4:=(holds_andW hc).1;rw[hn]at h4;exact h4
  have h5:=condW_of h4 (w_not (w_lt w_lit (w_len_list (w_arg rfl))));rw[bT]at h5;refine Nat.le_of_not_lt λq=>?_;have i:(n:Int)<((ns.length:Nat):Int):=by lia
  first|(rw[decide_eq_true i]at h5;exact absurd h5 (by decide))|(simp at h5;lia)
 cases g with|cons w1 w2=>cases w2;cases w1 with|list e c=>exact⟨_,_,ns,rfl,rfl,e,n6 ns _ c,hlen⟩
theorem FV(l:OpenLaw)(args:List WData):l.row.toRowW.claim.post args (.bool true) args=true:=postW_of (r:=l.row.toRowW) (X:=(true==true)) (show WShape.has [] (.bool true) .bool=true by first|rfl|decide|simp[WShape.has,WShape.arms,WShape.armsAll]) (show(WTm.eq .res (.lit (.bool true))).value [] {args:=args,res:=some (.bool true),after:=args}=some (.bool (true==true))from w_eq_bool (w_res rfl) w_lit) rfl
theorem AV{l:OpenLaw}{n:Nat}{q:Program}{loose:List Str}{XP:(Str->Option Value)->Heap->Prop}{YP:World->Heap->Prop}{d:DefRec}(hn:l.most=some n)(h:d.params.defaults=[])(call:∀(w:World)(b4 b:Shared)(mg mb:Str->Option Value)(fa:Addr)(o:Obj)(pm cd doc:Value)(a:Addr)(vs:List Value)(ns:List Int),Ground q loose [] XP w b4 mg mb b.heap->YP w b.heap->b.heap.get? fa=some o->o.data= .func (docDef d.name d.params d.body d.scope pm cd doc)->b.heap.CodeRec cd d.name->mg d.name=some (.ref fa)->b.heap.get? a=some {cls:= .type "list",data:= .seq vs.toArray}->IntsAre vs ns->ns.length<=n->b.gens=#[]->codeAny (model l.prog w) callerA (.call (.ref fa) ⟨[.ref a],[]⟩) (λr s'=>r= .ok (.ret (.bool true))/\OldK b.heap s'.heap/\s'.os=b.os/\AllBare s'.gens) b):WalkO q loose XP YP l.row.toRowW d [] (λf vs=>PySem.call f vs):=by intro w b4 b mg mb G Y fa o pm cd doc e kV j hd g c hmg i args vals as m s u p t;obtain rfl:e= .none:=Dflts.none c h;obtain rfl:kV= .none:=Dflts.noKw c;obtain⟨a,vs,ns,rfl,rfl,k,hints,hlen⟩:=Gq hn m p;refine enter_call (codeAny_mono (call w b4 b mg mb fa o pm cd doc a vs ns G Y j (fd_plain hd) g hmg k hints hlen i) λr s' hq=>?_);obtain⟨rfl,h2,h3,h4⟩:=hq;exact⟨.inl ⟨.bool true, .bool true,[],rfl,λ_=>rfl, .bool true,FV l _,λ_=>⟨List.Pairwise.nil,λ_ hm=>(nomatch hm)⟩⟩,h2,h3,h4⟩
section
variable{prog:Program}{w:World}{A:Around}{E:Value->Shared->Prop}{s:Shared}{K:Frag}
end
end Att
end
section
namespace L2
open PySem PySem.Spec PyProof.Rows
theorem wj:∀{vs:List Value}{ns:List Int},IntsAre vs ns->Vals (ns.map V.int) vs|_,_, .nil=> .nil|_,_, .cons n t h=> .cons ⟨t,rfl⟩ (wj h)
def QY(H:Hp):Prop:=∀b,H b=none\/∃o xs,H b=some (.B3 o (.lst xs))
theorem Ik{P:Program}{w:World}{K:PySem.W.Frag}{mg mb:Str->Option Value}{CX:nU}{k:Nat}{fa a:Addr}{fd:FuncData}{x:Str}{sp:Sp}{c:Shared}{vs:List Value}{ns:List Int}(KX:K.In c.heap)(E:c.heap.Ns mainGlobals mg)(hb:c.heap.Ns builtinsNs mb)(Q:∀x:Str,x≠"__name__"->mb x=bootBuiltins x)(U:c.heap.NoLimit)(S:Rl mg c.heap)(T:c.gens=#[])(ha:c.heap.get? a=some {cls:= .type "list",data:= .seq vs.toArray})(hi:IntsAre vs ns)(hl:ns.length<=sizeLine)(X:cV k callerA)(F:∀base:Heap,K.In base->base.Ns mainGlobals mg->nP P w K mg base CX k fa fd [x] sp)(R:∀(s:Shared)(u:Value),BindsTo s fd ⟨[u],[]⟩ [(x,u)])(Y:∀H:Hp,QY H->bj K H a (ns.map V.int)->sp [.ref a] H (λv _=>v= .bl true) λ_ _ _=>False)(L:∀H e s',CX callerA.handled [] H c (λ_ _ _=>False) e s'->False):codeAny (model P w) callerA (.call (.ref fa) ⟨[.ref a],[]⟩) (λr s'=>r= .ok (.ret (.bool true))/\OldK c.heap s'.heap/\s'.os=c.os/\AllBare s'.gens) c:=by
 have G:=wj hi;have Z:=hi.length;have core:∀H:Hp,QY H->bj K H a (ns.map V.int)->j3 P w H c.heap->(∀b,H b≠none->b=a)->(H a≠none->K.lookup a=none)->codeAny (model P w) callerA (.call (.ref fa) ⟨[.ref a],[]⟩) (λr s'=>r= .ok (.ret (.bool true))/\OldK c.heap s'.heap/\s'.os=c.os/\AllBare s'.gens) c:=by
  intro H D O cI y M;have l:∀{b:Addr}{o:Obj},c.heap.get? b=some o->H b=none->(ub c.heap H).get? b=some o:=λe n=>AF e n;have Vp:∀{b:Addr}{o:Obj}{es:Array DictEntry}{ep:Nat},c.heap.get? b=some o->o.data= .dict es ep->H b=none:=λ{b o es ep}e d=>by cases q:H b with|none=>rfl|some u=>have f:b=a:=y b (by rw[q];simp);subst f;rw[ha]at e;cases e;have d':Data.seq vs.toArray _=Data.dict es ep:=d;cases d'
  have j:∀{b:Addr}{m:Str->Option Value},c.heap.Ns b m->(ub c.heap H).Ns b m:=λ{b m}⟨o,es,ep,e,d,r⟩=>⟨o,es,ep,l e (Vp e d),d,r⟩;have C:K.In (ub c.heap H):=λb o e=>l (KX b o e) (by cases q:H b with|none=>rfl|some u=>have f:b=a:=y b (by rw[q];simp);subst f;rw[M (by rw[q];simp)]at e;cases e);have I:∀{m:Str->Option Value},Rl m c.heap->Rl m (ub c.heap H):=λ{m}⟨bm,ob,i,p,t,B⟩=>⟨bm,ob,i,p,l t (by cases q:H bm with|none=>rfl|some u=>have f:bm=a:=y bm (by rw[q];simp);subst f;rw[ha]at t;cases t;exact absurd (show Value.type "list"=Value.type "module"from B.1) (by simp)),B⟩;have N:Mod K mg (ub c.heap H):=⟨C,j E,⟨mb,j hb,Q⟩,let⟨mc,h1,h2⟩:=U;⟨mc,j h1,h2⟩,I S⟩;have J:Az P w K mg (ub c.heap H) callerA [] c H:=⟨rfl,N,λb o e=>Ee e,Nat.le_of_eq (vZ _ _),trivial,λb hb=>absurd (show b∈([]:List Addr)from hb) (by simp),cI, .of_eq T, .inl rfl⟩;refine codeAny_mono ((F _ C (j E)).run callerA [] c H ⟨[.ref a],[]⟩ [.ref a] [.ref a] _ _ X J (R c (.ref a)) (.cons rfl .nil) (Y H D O)) λr s' h=>?_;cases r with
   |error e=>exact(L H e s' h).elim
   |ok fl=>
    cases fl with
     |next=>exact False.elim h
     |brk=>exact False.elim h
     |cont=>exact False.elim h
     |ret u=>
      obtain⟨v,H',os,bare,un,W,r',q⟩:=h;have q':v= .bl true:=q;subst q';obtain rfl:u=Value.bool true:=r';refine⟨rfl,OldK.of_keep λb o e=>?_,os,bare⟩;cases q:H b with
       |none=>exact un.keep b o e q (by intro z;exact absurd (show b∈([]:List Addr)from z) (by simp)) (by simp)
       |some u=>
        rcases D b with z|⟨ob,xs,z⟩;·rw[q]at z;cases z
        ·have z2:=un.nO b ob _ z;obtain⟨i,_⟩:=cI b _ z;obtain⟨p,_⟩:=W b _ z2;rw[e]at i;cases i;exact p
 cases A:K.lookup a with
  |some o=>have e:=KX a o A;rw[ha]at e;cases e;refine core (λ_=>none) (λ_=> .inl rfl) (.inr ⟨_,vs.toArray,_,A,rfl,rfl,rfl,by rw[dt,Z];exact hl,by simpa using G⟩) (λb u z=>by have g:(none:Option HO)=some u:=z;cases g) (λb z=>absurd rfl z) λz=>absurd rfl z
  |none=>
   refine core (λb=>if b=a then some (.B3 {cls:= .type "list",data:= .seq vs.toArray} (.lst (ns.map V.int)))else none) (λb=>?_) (.inl (.inr ⟨{cls:= .type "list",data:= .seq vs.toArray},if_pos rfl⟩)) (λb u z=>?_) (λb z=>?_) λ_=>A
   ·by_cases hb:b=a;·exact .inr ⟨_,_,if_pos hb⟩
    ·exact .inl (if_neg hb)
   ·by_cases hb:b=a;·have g:=(if_pos hb).symm.trans z;cases g;subst hb;exact⟨ha,by rw[bT];exact hl,vs,_,G,ha⟩
    ·have g:=(if_neg hb).symm.trans z;cases g
   ·by_cases hb:b=a;·exact hb
    ·exact absurd (if_neg hb) z
noncomputable abbrev KOf{K:PySem.W.Frag}{h:Heap}(_:K.In h):PySem.W.Frag:=K
theorem Ma{l:PySem.W.OpenLaw}{n k:Nat}{q:Program}{loose:List Str}{XP:(Str->Option Value)->Heap->Prop}{YP:World->Heap->Prop}{d:DefRec}{K:Params->PySem.W.Frag}{CX:World->nU}{sp:World->Sp}{x:Str}(hn:l.most=some n)(r:n<=sizeLine)(m:d.params.defaults=[])(y:cV k callerA)(j:∀(w:World)(h:Heap),YP w h->(K w.params).In h)(F:∀(w:World)(mg:Str->Option Value)(fa:Addr)(h:Heap),(K w.params).In h->h.Ns mainGlobals mg->mg d.name=some (.ref fa)->∃fd:FuncData,(∀(s:Shared)(u:Value),BindsTo s fd ⟨[u],[]⟩ [(x,u)])/\∀base:Heap,(K w.params).In base->base.Ns mainGlobals mg->nP l.prog w (K w.params) mg base (CX w) k fa fd [x] (sp w))(z:∀(w:World)(H:Hp)(a:Addr)(ns:List Int),ns.length<=n->QY H->bj (K w.params) H a (ns.map V.int)->sp w [.ref a] H (λv _=>v= .bl true) λ_ _ _=>False)(b:∀(w:World)(H:Hp)(s:Shared)(e:Value)(s':Shared),CX w callerA.handled [] H s (λ_ _ _=>False) e s'->False):PySem.W.WalkO q loose XP YP l.row.toRowW d [] (λf vs=>PySem.call f vs):=by refine Att.AV hn m λw b4 A mg mb fa o pm cd doc a vs ns G Y C hd B hmg t hints hlen p=>?_;have KX:=j w _ Y;obtain⟨fd,hb,c⟩:=F w mg fa _ KX G.T.g hmg;exact Ik KX G.T.g G.T.b G.T.builtins G.T.nolimit G.T.bmain p t hints (dI hlen r) y c hb (λH g i=>z w H a ns hlen g i) λH e s'=>b w H A e s'
noncomputable def inClass(s:Stmt)(j:Nat):Stmt:=match s with| .ClassDef _ _ _ body _ _ _ _ _ _ _=>body.getD j (.Pass ⟨0,0,0,0⟩)|_=> .Pass ⟨0,0,0,0⟩
noncomputable def de(s:Stmt):Arguments:=match s with| .FunctionDef _ a _ _ _ _ _ _ _ _=>a|_=>{posonlyargs:=[],args:=[],vararg:=none,kwonlyargs:=[],kw_defaults:=[],kwarg:=none,defaults:=[]}
noncomputable def bN(s:Stmt):List Stmt:=match s with| .FunctionDef _ _ b _ _ _ _ _ _ _=>b|_=>[]
noncomputable def aq(s:Stmt):Scope:=match s with| .FunctionDef _ _ _ _ _ _ sc _ _ _=>sc|_=>{kind:= .function,names:=[],isGenerator:=false,isCoroutine:=false}
noncomputable abbrev cR:nU:=λ_ _ _ _ _ _ _=>False
noncomputable abbrev E0:XK:=λ_ _ _=>False
theorem bh{X:Cx}:Passes cR X E0:=λ_ _ _ _ _ _ _ h=>h.elim
structure NI(K:PySem.W.Frag)(x qual:Str)(st:Stmt)(f:Addr)(fd:FuncData):Prop where
 ex:∃(oc:Value)(od:Option Addr)(kV doc pm:Value)(an:Option Addr)(cH ct:Value)(Ge:Array (Option Value)),fd=PySem.W.fnOf x qual (de st) (bN st) (aq st) .none kV doc pm an cH ct/\K.lookup f=some ⟨oc,od, .func fd,Ge⟩/\PySem.W.codeIn K cH qual=true
 kp:PySem.W.keepIn K (.ref f)=true
section
variable{P:Program}{w:World}{K:PySem.W.Frag}{mg:Str->Option Value}{base:Heap}
theorem NI.ok{x qual:Str}{st:Stmt}{f:Addr}{fd:FuncData}{N ps:List Str}{k:Nat}{sp:Sp}(F:NI K x qual st f fd)(S:aJ N ps (aq st))(len:∀vs H Q E,sp vs H Q E->vs.length=ps.length)(a:∀(cH:Value)(A:Around)(outer:List Env)(s:Shared)(H:Hp)(vs:List V)(Q:VK)(E:XK),cV k (A.deeper (envOfC qual (aq st) s.heap.objs.size f cH))->sp vs H Q E->∃t,jx (d_ cR P w K mg base N qual (aq st) f cH A outer s H E).DT (bN st) t/\t {nx:=λ_ H'=>Q .bU H',rt:=Q} (start N vs) H):nP P w K mg base cR (k+1) f fd ps sp:=by obtain⟨oc,od,kV,doc,pm,an,cH,ct,Ge,rfl,e,b⟩:=F.ex;refine J4 e b S len λA outer s H vs Q E c d=>?_;obtain⟨t,h,q⟩:=a cH A outer s H vs Q E c d;exact⟨t,h.DT,q⟩
theorem NI.binds{x qual:Str}{st:Stmt}{f:Addr}{fd:FuncData}{ps:List Str}(F:NI K x qual st f fd)(h:∀(kV doc pm:Value)(an:Option Addr)(cH ct:Value)(us:List Value),us.length=ps.length->bindArgs (PySem.W.fnOf x qual (de st) (bN st) (aq st) .none kV doc pm an cH ct) ⟨us,[]⟩=pure (ps.zip us)):Binds K fd ps []:=by obtain⟨oc,od,kV,doc,pm,an,cH,ct,Ge,rfl,b,a⟩:=F.ex;exact .all (h kV doc pm an cH ct)
theorem ft{x qual:Str}{st:Stmt}{f:Addr}{oc:Value}{od an:Option Addr}{Ge:Array (Option Value)}{kV doc pm cH ct:Value}(l:K.lookup f=some ⟨oc,od, .func (PySem.W.fnOf x qual (de st) (bN st) (aq st) .none kV doc pm an cH ct),Ge⟩)(c:PySem.W.codeIn K cH qual=true)(k:PySem.W.keepIn K (.ref f)=true):NI K x qual st f (PySem.W.fnOf x qual (de st) (bN st) (aq st) .none kV doc pm an cH ct):=⟨⟨oc,od,kV,doc,pm,an,cH,ct,Ge,rfl,l,c⟩,k⟩
end
theorem IU{A:Around}{k:Nat}(a:cV k A):A.units+1<cLine:=Nat.lt_of_le_of_lt (Nat.add_le_add_left (by decide:1<=64) _) a.units
section
variable{X:Cx}
theorem pv(i:Nat){x:Str}{d:Pos}(a:X.N[i]?=some x:=by rfl)(c:WG X.env.scope x:=by first|exact Or.inl rfl|exact Or.inr (Or.inl rfl)|exact Or.inr (Or.inr rfl))(hd:(x==("__debug__":Str))=false:=by decide)(b:(x==("__classdict__":Str))=false:=by decide):PE X (.Name x d) (bX i):=To a c hd b
end
theorem cB{A B:Prop}(h:B):if false=true then A else B:=by rw[if_neg fw];exact h
theorem bo{A B:Prop}(h:A):if true=true then A else B:=by rw[if_pos rfl];exact h
theorem bz{c A B:Prop}[Decidable c](h1:c->A)(h2:¬c->B):if c then A else B:=by
 by_cases h:c;·rw[if_pos h];exact h1 h
 ·rw[if_neg h];exact h2 h
def aD(H H':Hp):Prop:=∀b o,H b=some o->H' b=some o
theorem aD.refl(H:Hp):aD H H:=λ_ _ h=>h
theorem aD.trans{H d e:Hp}(a:aD H d)(b:aD d e):aD H e:=λc o h=>b c o (a c o h)
theorem aD.free{H H':Hp}(e:aD H H'){l:Addr}(h:H' l=Option.none):H l=Option.none:=by cases q:H l with|none=>rfl|some o=>rw[e l o q]at h;cases h
section
variable{X:Cx}
end
section
variable{κ:Type}[DecidableEq κ]
theorem L7{ip:List (κ×V)}{k:κ}{v:V}(h:lU ip k=some v):k∈ip.map (·.1):=by
 have q:(ip.any λb=>decide (b.1=k))=true:=by rw[Ag,h];all_goals rfl
 obtain⟨p,a,e⟩:=List.any_eq_true.mp q;exact List.mem_map.mpr ⟨p,a,of_decide_eq_true e⟩
end
end L2
end
section
namespace L3
open PySem PySem.Spec PyProof.Rows L2
noncomputable def dS(env:Env):List (Str×NameKind)->List (Str×Addr)->List (Str×Addr)|[],a=>a|(n,k)::r,a=>dS env r (if(k== .free)=true then(n,(env.cells.lookup n).getD 0)::a else a)
theorem uP{env:Env}{scope:Scope}(h:∀x∈scope.names,x.2= .free->∃c,env.cells.lookup x.1=some c):closureFor scope env=pure (dS env scope.names []):=by
 unfold closureFor;have go:∀(l:List (Str×NameKind))(b:List (Str×Addr)),(∀x∈l,x.2= .free->∃c,env.cells.lookup x.1=some c)->(forIn l b λ(x:Str×NameKind)(r:List (Str×Addr))=>if(x.2== .free)=true then(do let a<-cellOf env x.1;pure (ForInStep.yield ((x.1,a)::r)))else pure (ForInStep.yield r):Sem (List (Str×Addr)))=pure (dS env l b):=by
  intro l;induction l with
   |nil=>intro b _;rfl
   |cons x l g=>
    intro b hl;obtain⟨n,k⟩:=x;have f:∀y∈l,y.2= .free->∃c,env.cells.lookup y.1=some c:=λy i=>hl y (cU _ i);rw[List.forIn_cons,dS];by_cases d:(k==NameKind.free)=true
    ·obtain⟨c,hc⟩:=hl (n,k) b5 (by simpa using d);have hc:env.cells.lookup n=some c:=hc;have e:cellOf env n=pure c:=by unfold cellOf;rw[hc]
     simp only[d,if_true,e,pure_bind,hc,Option.getD_some];exact g _ f
    ·simp only[d,if_false,pure_bind];exact g _ f
 have q:=go scope.names [] h;simp only[bind_pure];exact q
theorem lh{env:Env}{x:Str}:∀(l:List (Str×NameKind))(a:List (Str×Addr)),(∃c,a.lookup x=some c)->∃c,(dS env l a).lookup x=some c
 |[],_,h=>h
 |(n,k)::r,a,h=>by
  rw[dS];refine lh r _ ?_;by_cases b:(k==NameKind.free)=true;·rw[if_pos b,jg];cases x==n with|true=>exact⟨_,rfl⟩|false=>exact h
  ·rw[if_neg b];exact h
theorem iI{env:Env}{x:Str}:∀(l:List (Str×NameKind))(a:List (Str×Addr)),(x,NameKind.free)∈l->∃c,(dS env l a).lookup x=some c
 |[],_,h=>by cases h
 |(n,k)::r,a,h=>by
  rw[dS];rcases List.mem_cons.mp h with e|h;·cases e;refine lh r _ ?_;rw[if_pos (by decide),jg,beq_self_eq_true];exact⟨_,rfl⟩
  ·exact iI r _ h
theorem jt{env:Env}:∀(l:List (Str×NameKind))(a:List (Str×Addr)),(∀x∈l,x.2= .free->∃c,env.cells.lookup x.1=some c)->(∀x c,a.lookup x=some c->env.cells.lookup x=some c)->∀x c,(dS env l a).lookup x=some c->env.cells.lookup x=some c
 |[],_,_,h=>h
 |(n,k)::r,a,hl,h=>by
  rw[dS];refine jt r _ (λy i=>hl y (cU _ i)) λx c e=>?_;by_cases d:(k==NameKind.free)=true
  ·rw[if_pos d,jg]at e;cases f:x==n with
    |true=>
     rw[f]at e;obtain rfl:x=n:=by simpa using f
     obtain⟨g,b⟩:=hl (x,k) b5 (by simpa using d);have b:env.cells.lookup x=some g:=b;rw[b]at e⊢;exact e
    |false=>rw[f]at e;exact h x c e
  ·rw[if_neg d]at e;exact h x c e
theorem kO{env:Env}:∀{l:List (Str×NameKind)}{x:Str},l.lookup x=some .free->(l.map λ(p:Str×NameKind)=>if(p.2==NameKind.free&&env.scope.kind== .function&&env.kindOf p.1==some .cell)then(p.1,NameKind.cell)else(p.1,p.2)).lookup x=some .cell\/(l.map λ(p:Str×NameKind)=>if(p.2==NameKind.free&&env.scope.kind== .function&&env.kindOf p.1==some .cell)then(p.1,NameKind.cell)else(p.1,p.2)).lookup x=some .free
 |[],_,h=>by simp at h
 |(n,k)::r,x,h=>by
  have b:=@kO env r x;rw[jg]at h;rw[gQ];by_cases hc:(k==NameKind.free&&env.scope.kind== .function&&env.kindOf n==some .cell)=true;·simp only[hc,if_true];rw[jg];cases a:x==n with|true=>exact .inl rfl|false=>rw[a]at h;exact b h
  ·simp only[hc,Bool.false_eq_true,if_false];rw[jg];cases a:x==n with|true=>rw[a]at h;exact .inr h|false=>rw[a]at h;exact b h
theorem tH{env:Env}:∀{l:List (Str×NameKind)}{x:Str},(∀y∈l,y.2≠ .cell)->((l.map λ(p:Str×NameKind)=>if(p.2==NameKind.free&&env.scope.kind== .function&&env.kindOf p.1==some .cell)then(p.1,NameKind.cell)else(p.1,p.2)).lookup x=some .cell\/(l.map λ(p:Str×NameKind)=>if(p.2==NameKind.free&&env.scope.kind== .function&&env.kindOf p.1==some .cell)then(p.1,NameKind.cell)else(p.1,p.2)).lookup x=some .free)->(x,NameKind.free)∈l
 |[],_,_,h=>by simp at h
 |(n,k)::r,x,hl,h=>by
  have b:=@tH env r x λy c=>hl y (cU _ c);rw[gQ]at h;by_cases hc:(k==NameKind.free&&env.scope.kind== .function&&env.kindOf n==some .cell)=true
  ·simp only[hc,if_true]at h;rw[jg]at h;cases a:x==n with
    |true=>
     obtain rfl:x=n:=by simpa using a
     have :k= .free:=by simp only[bW]at hc;simpa using hc.1.1
     rw[this];exact b5
    |false=>rw[a]at h;exact cU _ (b h)
  ·simp only[hc,Bool.false_eq_true,if_false]at h;rw[jg]at h;cases a:x==n with
    |true=>
     rw[a]at h;obtain rfl:x=n:=by simpa using a
     rcases h with h|h;·exact absurd (Option.some.inj h) (hl (x,k) b5)
     ·have :k= .free:=Option.some.inj h;rw[this];exact b5
    |false=>rw[a]at h;exact cU _ (b h)
noncomputable abbrev B6(X:Cx)(scope:Scope)(C:Addr):Env:=compEnvC scope (dS X.env scope.names []) C X.env
noncomputable abbrev dG(X:Cx)(N':List Str)(scope:Scope)(a:Shared)(b:Hp)(fp:List Addr):Cx:={X with N:=N',b4:=a,H₀:=b,env:=B6 X scope a.heap.objs.size,outer:=X.stack,stack:=X.stack,ex:=fp,fn:=λ_=>false,pn:=X.pn,xe:=λ_ _=>False}
noncomputable def gd(own:Nat)(fr:List Nat)(σ:L2.St):L2.St:=List.replicate own none++fr.map λi=>(σ[i]?).join
structure kN(X:Cx)(N':List Str)(own:Nat)(fr:List Nat)(scope:Scope):Prop where
 kind:scope.kind= .function
 Be:∀y∈scope.names,y.2≠ .cell
 loc:∀x∈scope.names,x.2= .local->scope.names.lookup x.1=some .local
 free:∀x∈scope.names,x.2= .free->X.env.kindOf x.1=some .cell\/X.env.kindOf x.1=some .free
 len:N'.length=own+fr.length
 fr:∀j i,fr[j]?=some i->∃x,N'[own+j]?=some x/\X.N[i]?=some x/\scope.names.lookup x=some .free
theorem ur{fs ex:List Addr}{H H':Hp}{h h1 h2:Heap}{C:Addr}(u:Un fs ex H H' h h1)(d:h.objs.size<=C)(c:Heap.SameBut C h1 h2):Un fs ex H H' h h2:=by
 have ne:∀b o,h.get? b=some o->b≠C:=λb o e=>eH (iu (bZ e) d);refine⟨λb o e n hb a=>(c.2 b (ne b o e)).trans (u.keep b o e n hb a),λb o e n hb a=>?_,u.free,λb o e a=>?_,u.uz,u.nO,u.ug⟩;·obtain⟨sl,q⟩:=u.slot b o e n hb a;exact⟨sl,(c.2 b (ne b o e)).trans q⟩
 ·obtain⟨o',q⟩:=u.there b o e a;exact⟨o',(c.2 b (ne b o e)).trans q⟩
theorem zA{P:Program}{w:World}{H:Hp}{h h2:Heap}{C:Addr}(k:j3 P w H h)(a:H C=none)(d:Heap.SameBut C h h2):j3 P w H h2:=λb ob e=>by
 refine(k b ob e).AK (λc f hc q=>(d.2 c ?_).trans q) (λ_ q=>q) λ_ _ q=>q;rintro rfl;rcases hc with rfl|hc;·rw[a]at e;cases e
 ·rw[a]at hc;cases hc
noncomputable def Ba(Y:Cx)(a:List Expr)(b:TT):Prop:=∀(pins:List (Addr×Obj))(s:Shared)(σ:L2.St)(H:Hp)(Q:Bool->Hp->Prop),Inv Y pins σ H s->b σ H Q->wpAny (model Y.prog Y.w) Y.A (forIn a true λc r=>if r=true then do let ok<-isTrue c Y.env (eval c Y.env);pure (ForInStep.yield ok)else pure (ForInStep.yield r)) (TP Y pins σ Q) Y.xe s
noncomputable def BN:TT:=λ_ H Q=>Q true H
theorem qi{Y:Cx}:Ba Y [] BN:=λ_ _ _ H _ I h=>wpAny_tests_nil ⟨H,I,h⟩
theorem yG{Y:Cx}{c:Expr}{t:TT}(h:PT Y c t):Ba Y [c] t:=λpins s σ H Q I hq=>wpAny_tests_one (h pins s σ H Q I hq)
section
variable{prog:Program}{w:World}{A:Around}{R:Result->Shared->Prop}{s:Shared}
theorem mS{b target iter:Expr}{d:List Expr}{scope:Scope}{k:Pos}{it a:Value}{env:Env}(J:Nat->Shared->Prop)(turn:∀n s,J n s->wpAny (model prog w) A (pyNext it) (λr e=>match r with|none=>R (.ok .next) e|some v=>wpAny (model prog w) A (letOwnedTupleGo target it v) (λ_ b4=>wpAny (model prog w) A (assign target env v) (λ_ l=>wpAny (model prog w) A (forIn d true λc r=>if r=true then do let ok<-isTrue c env (eval c env);pure (ForInStep.yield ok)else pure (ForInStep.yield r)) (λok g=>if ok=true then wpAny (model prog w) A (eval b env) (λx o=>wpAny (model prog w) A (call (.builtin "list.append") [a,x]) (λ_ p=>∃m,m<n/\J m p) (λ_ _=>False) o) (λ_ _=>False) g else∃m,m<n/\J m g) (λ_ _=>False) l) (λ_ _=>False) b4) (λ_ _=>False) e) (λ_ _=>False) s)(n:Nat)(h:J n s):codeAny (model prog w) A (.compLoop (.ListComp b [⟨target,iter,d,0⟩] scope k) 0 it a env) R s:=by refine codeAny_loop rfl J (λn s y=>?_) n h;show wpAny _ A ((compTurn (.ListComp b [⟨target,iter,d,0⟩] scope k) 0 it a env).onRaise (λx=>do noteFrame x env;theTreesLotGoes x)) _ _ s;refine wpAny_noted ?_;rw[compTurn_list];have no:∀{t:Type}{m:Sem t}{Q:t->Shared->Prop}{u:Value->Shared->Prop}{s':Shared},wpAny (model prog w) A m Q (λ_ _=>False) s'->wpAny (model prog w) A m Q u s':=λhm=>fk hm (λ_ _ q=>q) λ_ _ f=>f.elim;refine aw (wpAny_standAt (aw (no (fk (turn n s y) (λr e i=>?_) λ_ _ h'=>h'))));cases r with|none=>exact bf i|some v=>refine aw (no (fk i (λ_ b4 h₀=>aw (no (fk h₀ (λ_ l z=>aw (no (fk z (λok g j=>?_) λ_ _ h'=>h'))) λ_ _ h'=>h'))) λ_ _ h'=>h'));cases ok with|false=>exact bf ⟨rfl,j⟩|true=>exact aw (aw (no (fk j (λx o B=>aw (no (fk B (λ_ p C=>bf (bf ⟨rfl,C⟩)) λ_ _ h'=>h'))) λ_ _ h'=>h')))
end
def Own(own:Nat)(g:TG):Prop:=∀v σ H Q,g v σ H Q->g v σ H λa b=>Q a b/\a.length=σ.length/\∀i,own<=i->a[i]?=σ[i]?
theorem fW{own i:Nat}(h:i<own):Own own (il i):=λv σ H Q q=>⟨q,by simp,λj a=>List.getElem?_set_ne (by lia)⟩
noncomputable def N7(own:Nat)(fr:List Nat)(o:TI)(g:TG)(n:TT)(l:TE):TE:=λσ H Q=>o σ H λJ d=>∀p,d p=none->∃W:Nat->Nat->List V->Hp->Prop,(∃m,W 0 m [] (upd d p (.lst [])))/\∀i m a b,W i m a b->(J.stop i b/\Q (.ref p) b)\/(J.go i b/\∀x e,J.uT i b x e->g x (gd own fr σ) e λj k=>n j k λok f=>if ok=true then l j f λv h=>h p=some (.lst a)/\a.length<sizeLine/\∃c,c<m/\W (i+1) c (a++[v]) (upd h p (.lst (a++[v])))else∃c,c<m/\W (i+1) c a f)
theorem Cy{X:Cx}{scope:Scope}{N':List Str}{own:Nat}{fr:List Nat}{pins:List (Addr×Obj)}{σ:L2.St}{f:Hp}{d:Shared}{h4:Heap}{fp:List Addr}{t4:Nat}{m:Str->Option Value}(S:kN X N' own fr scope)(a:Inv X pins σ f d)(g:∀b∈fp,uj X pins f b/\b<d.heap.objs.size)(keep:∀b o,d.heap.get? b=some o->h4.get? b=some o)(H:h4.Ns d.heap.objs.size m):Inv (dG X N' scope d f fp) [] (gd own fr σ) f {d with heap:=h4,toks:=t4}:=by
 have F:∀x∈scope.names,x.2= .free->∃c,X.env.cells.lookup x.1=some c:=λx t e=>a.ok.has x.1 (S.free x t e);have snd:∀x c,(dS X.env scope.names []).lookup x=some c->X.env.cells.lookup x=some c:=jt _ _ F λx c e=>by simp at e
 have ok:(dG X N' scope d f fp).Ok:=by
  refine⟨a.ok.mod,S.kind,a.ok.glob,a.ok.blt,bB _,λx y c h l=>a.ok.inj x y c (snd x c h) (snd y c l),λx t=>iI _ _ (tH S.Be t),λx c z=>(by cases z),a.ok.hd,a.ok.frames, .inl rfl,λb hb=>⟨eH (g b hb).2,λx c e=>(g b hb).1.2.2.2.2.1 x c (snd x c e)⟩,a.bs,dI a.ok.G5 a.sz,λb o e hb=>?_,λb hb J=>?_,a.stack,a.xA⟩
  ·rcases(g b hb).1.2.2.2.1 with z|z;·exact a.ok.B2 b o e z
   ·exact absurd (iu (bZ e) a.ok.G5) (Nat.not_lt.mpr z)
  ·rcases List.mem_cons.mp (a.iD b J)with z|z;·exact(g b hb).1.2.1 z
   ·exact(g b hb).1.2.2.1 z
 refine⟨ok,rfl,a.bare,Un.kept keep,⟨m,H,λi x v h1 h2 h3=>?_⟩,λx c e=>?_,a.cI.fresh (bB _),λx c e=>a.gb x c (snd x c e),λp I=>?_,a.cI.kept keep,?_⟩
 ·have h1:N'[i]?=some x:=h1;have hi:¬i<own:=λz=>by unfold gd at h2;rw[AL (by simpa using z),List.getElem?_replicate]at h2;split at h2<;>cases h2
  obtain⟨j,rfl⟩:∃j,i=own+j:=⟨i-own,by lia⟩;unfold gd at h2;rw[List.getElem?_append_right (by simp),List.length_replicate,Nat.add_sub_cancel_left,fU]at h2;cases n:fr[j]? with
   |none=>rw[n]at h2;cases h2
   |some k=>
    rw[n]at h2;have h2:(σ[k]?).join=some v:=Option.some.inj h2;have K:σ[k]?=some (some v):=by cases q:σ[k]? with|none=>rw[q]at h2;cases h2|some R=>rw[q]at h2;exact congrArg some h2
    obtain⟨T,h,l,B⟩:=S.fr j k n;rw[h1]at h;cases h;have mem:=PySem.mem_of_lookup B;have C:=S.free _ mem rfl;obtain⟨Q,P,G⟩:=a.loc;obtain⟨u,r,look⟩:=G k x v l K (.inr C);rcases look with⟨q,_⟩|⟨q,c,hc,o,s,hd⟩
    ·rcases C with z|z;·have z:X.env.kindOf x=some .cell:=z;rw[z]at q;cases q
     ·have z:X.env.kindOf x=some .free:=z;rw[z]at q;cases q
    ·obtain⟨E,w⟩:=iI (env:=X.env) scope.names [] mem;have A:=snd x E w;rw[hc]at A;cases A;exact⟨u,r, .inr ⟨kO B,c,w,o,keep _ _ s,hd⟩⟩
 ·obtain⟨v,o,s,hd⟩:=a.cell x c (snd x c e);exact⟨v,o,keep _ _ s,hd⟩
 ·obtain⟨D,L,M,N,O⟩:=a.pin p (kP _ (by simpa using I));refine⟨keep _ _ D,L,eH (bZ D),λz=>?_,O⟩;rcases List.mem_cons.mp (a.iD _ z)with z|z;·exact M z
  ·exact N z
 ·show(gd own fr σ).length=N'.length;unfold gd;rw[S.len,cx,List.length_replicate,bT]
theorem ky{X:Cx}{tg iter K:Expr}{R:List Expr}{scope:Scope}{pos:Pos}{wi:TI}{g:TG}{tt:TT}{te:TE}{N':List Str}{own:Nat}{fr:List Nat}(hc:X.calm=true)(S:kN X N' own fr scope)(hi:PI X tg iter wi)(ho:Own own g)(hg:∀B A fp,PG (dG X N' scope B A fp) tg g)(hf:∀B A fp,Ba (dG X N' scope B A fp) R tt)(he:∀B A fp,PE (dG X N' scope B A fp) K te)(hs:∀x,foldedSetIterable iter X.env x=pure x:=by intro _;rfl):PE X (.ListComp K [⟨tg,iter,R,0⟩] scope pos) (N7 own fr wi g tt te):=by
 intro pins s σ H Q I h;have LG:∀x∈scope.names,x.2= .free->∃c,X.env.cells.lookup x.1=some c:=λx hx e=>I.ok.has x.1 (S.free x hx e);rw[eval_ListComp];refine wpAny_comprehension_free (use:=none) rfl hs (uP LG) S.kind S.loc ?_;refine bR (hi pins s σ H _ I h) λv s1 h1=>bR h1 λYu s2 h2=>?_;obtain⟨it,fp,tn,J,d,e,I2,T,Tr,m,h2⟩:=h2;subst e;refine wpAny_newObj_type (hd:=by size_fits) (wpAny_newFunctionEnv S.Be (by intro y hy;simp at hy) (λh4 N P=>?_) S.kind);have C7:=I2.cI.fresh (bB s2.heap.objs.size);obtain⟨W,⟨m0,w0⟩,turn⟩:=h2 _ C7;have D:Inv X pins σ (upd d s2.heap.objs.size (.lst [])) {s2 with heap:=s2.heap.push {cls:= .type "list",dict:=none,data:= .seq ([]:List Value).toArray},toks:=s2.toks}:=I2.JJ .nil (fV _);have Vq:∀b∈fp,b<s2.heap.objs.size:=λb hb=>let⟨o,e,_⟩:=T.obj _ _ Tr b hb;bZ e;have up2:∀b o,s2.heap.get? b=some o->∀ob:Obj,(s2.heap.push ob).get? b=some o:=λb o e ob=>cW _ e;have Wo:(s2.heap.push {cls:= .type "list",dict:=none,data:= .seq ([]:List Value).toArray}).objs.size=s2.heap.objs.size+1:=Heap.size_push ..;revert N P D;generalize e3:s2.heap.push {cls:= .type "list",dict:=none,data:= .seq ([]:List Value).toArray}=h3 at Wo⊢;intro N P D;have keep:∀b o,h3.get? b=some o->h4.get? b=some o:=λb o e=>(P.2 b (eH (bZ e))).trans (cW _ e);have L:∀b∈fp,uj X pins (upd d s2.heap.objs.size (.lst [])) b/\b<h3.objs.size:=λb hb=>by refine⟨⟨?_,(m b hb).2⟩,by rw[Wo];exact Nat.lt_succ_of_lt (Vq b hb)⟩;rw[bc (eH (Vq b hb))];exact(m b hb).1
 have E:=Cy (t4:=s2.toks+([]:List (Str×Value)).length) S D L keep N;have Z:tn 0 h4:=T.keep _ _ _ Tr λb hb o e=>keep b o (by rw[<-e3];exact up2 b o e _);have Y:∀{H':Hp},(∀b∈fp,H' b=none)->∀b∈fp,uj (dG X N' scope {s2 with heap:=h3,toks:=s2.toks} (upd d s2.heap.objs.size (.lst [])) fp) [] H' b:=λ{H'}hn b hb=>⟨hn b hb,eH (L b hb).2,λz=>E.ok.Bg b hb z, .inl hb,(E.ok.U5 b hb).2,λp hp=>(m b hb).2.2.2.2.2 p (kP _ (by simpa using hp))⟩;have loop:∀F:Shared,Inv (dG X N' scope {s2 with heap:=h3,toks:=s2.toks} (upd d s2.heap.objs.size (.lst [])) fp) [] (gd own fr σ) (upd d s2.heap.objs.size (.lst [])) F->tn 0 F.heap->codeAny (model X.prog X.w) X.A (.compLoop (.ListComp K [⟨tg,iter,R,0⟩] scope pos) 0 (.ref it) (.ref s2.heap.objs.size) (B6 X scope h3.objs.size)) (compPost (model X.prog X.w) X.A X.xe none (EP X pins σ Q) (.ref s2.heap.objs.size) h3.objs.size) F:=by
  intro F Ix tx;refine mS (λn s'=>∃i l H',Inv (dG X N' scope {s2 with heap:=h3,toks:=s2.toks} (upd d s2.heap.objs.size (.lst [])) fp) [] (gd own fr σ) H' s'/\tn i s'.heap/\(∀b∈fp,H' b=none)/\W i n l H') ?_ m0 ⟨0,[],_,Ix,tx,λb hb=>(L b hb).1.1,w0⟩;rintro n s5⟨i,l,C,I5,NF,TQ,w5⟩;rcases turn i n l C w5 with⟨stop,qn⟩|⟨go,step⟩;·refine bR (T.done (dG X N' scope {s2 with heap:=h3,toks:=s2.toks} (upd d s2.heap.objs.size (.lst [])) fp) rfl rfl rfl hc i [] s5 _ C (λ_ _=>False) I5 (Y TQ) NF stop) λr s6 a=>?_;obtain⟨O,q⟩:=a;subst O;obtain⟨m6,ZI,_⟩:=id q.loc;refine⟨m6,ZI,λh7 hs7=>⟨.ref s2.heap.objs.size,C,?_,rfl,qn⟩⟩;exact D.JC (s':={s6 with heap:=h7}) (ch:=fp) q.os (ur q.base (bB _) hs7) (zA q.cI q.free hs7) q.bare λb hb=>⟨(m b hb).2.2.2.1,(m b hb).2.1,(m b hb).2.2.2.2.1,(m b hb).2.2.2.2.2⟩
  ·refine bR (T.item (dG X N' scope {s2 with heap:=h3,toks:=s2.toks} (upd d s2.heap.objs.size (.lst [])) fp) rfl rfl rfl hc i [] s5 _ C (λ_ _=>False) I5 (Y TQ) NF go) λr s6 a=>?_;obtain⟨u,O,h6⟩:=a;subst O;refine bR h6 λ_ s7 a=>?_;obtain⟨x,H7,I7,r7,y7,V,Z3⟩:=a;have I7':=I7.pinned (Y Z3) (T.obj _ _ V);refine bR (hg _ _ _ _ s7 _ H7 x u _ I7' r7 (ho _ _ _ _ (step x H7 y7))) λ_ s8 a=>?_;obtain⟨G,H8,I8,q8,l8,k8⟩:=a;have again:∀{k:Hp}{w:Shared},Inv (dG X N' scope {s2 with heap:=h3,toks:=s2.toks} (upd d s2.heap.objs.size (.lst [])) fp) ([]++ly fp s7.heap) G k w->Inv (dG X N' scope {s2 with heap:=h3,toks:=s2.toks} (upd d s2.heap.objs.size (.lst [])) fp) [] (gd own fr σ) k w/\tn (i+1) w.heap/\∀b∈fp,k b=none:=λ{k w}t=>by
    refine⟨t.iP.weak l8.symm λj v e=>?_,T.keep _ _ _ V λb hb o e=>(t.pin (b,o) (gP _ (gP _ (eI hb e)))).1,λb hb=>?_⟩
    ·have hj:own<=j:=by refine Nat.le_of_not_lt λz=>?_;unfold gd at e;rw[AL (by simpa using z),List.getElem?_replicate]at e;split at e<;>cases e
     rw[k8 j hj];exact e
    ·obtain⟨o,e,_⟩:=T.obj _ _ V b hb;exact(t.pin (b,o) (gP _ (gP _ (eI hb e)))).2.1
   refine bR (hf _ _ _ _ s8 G H8 _ I8 q8) λok w a=>?_;obtain⟨k,t,q9⟩:=a;cases ok with|false=>obtain⟨U,M,w9⟩:=q9;obtain⟨a1,a2,a3⟩:=again t;exact⟨U,M,i+1,l,k,a1,a2,a3,w9⟩|true=>refine bR (he _ _ _ _ w G k _ t q9) λy ZH a=>?_;obtain⟨v,LV,I10,r10,SW,QV,U,M,w10⟩:=a;refine bR (fL _ ZH G LV (.ref s2.heap.objs.size) [v] (.ref s2.heap.objs.size) [y] (λ_ Hn=>Hn=upd LV s2.heap.objs.size (.lst (l++[v]))) I10 rfl (.cons r10 .nil) ⟨_,l,v,rfl,rfl,SW,QV,rfl⟩) λ_ s11 a=>?_;obtain⟨_,UA,I11,_,Z7⟩:=a;subst Z7;obtain⟨a1,a2,a3⟩:=again I11;exact⟨U,M,i+1,l++[v],_,a1,a2,a3,w10⟩
 exact codeAny_compStart_list (loop _ E Z) (fk (T.self X.A 0 _ (λv s'=>v= .ref it/\s'=_) (λ_ _=>False) Z ⟨rfl,rfl⟩) (λv s'⟨e1,e2⟩=>by subst e1;subst e2;exact loop _ E Z) λ_ _ f=>f.elim)
def Nx(n i:Nat)(P:Prop):Prop:=∃a,a<n-i/\a=n-(i+1)/\i+1<=n/\P
theorem nx{n i:Nat}{P:Prop}(h:i<n)(p:P):Nx n i P:=⟨n-(i+1),by lia,rfl,h,p⟩
theorem iW{J:It}{p:Addr}{l:Hp}{g:TG}{q:TT}{o:TE}{b:L2.St}{Q:VK}(n:Nat)(Pv:Nat->List V->Hp->Prop)(r:Pv 0 [] (upd l p (.lst [])))(s:∀i a c,i<n->Pv i a c->J.go i c/\∀x d,J.uT i c x d->g x b d λj k=>q j k λok e=>if ok=true then o j e λv f=>f p=some (.lst a)/\a.length<sizeLine/\Nx n i (Pv (i+1) (a++[v]) (upd f p (.lst (a++[v]))))else Nx n i (Pv (i+1) a e))(hd:∀a c,Pv n a c->J.stop n c/\Q (.ref p) c):∃W:Nat->Nat->List V->Hp->Prop,(∃m,W 0 m [] (upd l p (.lst [])))/\∀i m a c,W i m a c->(J.stop i c/\Q (.ref p) c)\/(J.go i c/\∀x d,J.uT i c x d->g x b d λj k=>q j k λok e=>if ok=true then o j e λv f=>f p=some (.lst a)/\a.length<sizeLine/\∃h,h<m/\W (i+1) h (a++[v]) (upd f p (.lst (a++[v])))else∃h,h<m/\W (i+1) h a e):=by
 refine⟨λi m a H=>m=n-i/\i<=n/\Pv i a H,⟨n,by simp,fV _,r⟩,?_⟩;rintro i m a c⟨rfl,hi,w⟩;by_cases t:i<n;·exact .inr (s i a c t w)
 ·obtain rfl:i=n:=by lia
  exact .inl (hd a c w)
end L3
end
section
namespace L3
open PySem L2
section
variable{prog:Program}{w:World}{A:Around}{E:Value->Shared->Prop}{s:Shared}
end
section
variable{prog:Program}{w:World}{A:Around}{E:Value->Shared->Prop}{s:Shared}
variable{z TI TO i1 i2:Addr}{f1 f2:List Addr}{n1 n2:Nat}{P1 P2:Nat->Value->Prop}{S1 S2:Nat->Heap->Prop}
end
section
variable{prog:Program}{w:World}{A:Around}{E:Value->Shared->Prop}{s:Shared}
end
end L3
end
section
namespace L3
open PySem PySem.Spec PyProof.Rows L2
section
variable{X:Cx}{pins:List (Addr×Obj)}{σ:L2.St}{H:Hp}{s:Shared}{h':Heap}
end
noncomputable def Y5(z:Str):It:=⟨λi _=>i<z.cps.size,λi H x H'=>H'=H/\∃c,z.cps[i]?=some c/\x= .str ⟨#[c]⟩,λi _=>z.cps.size<=i⟩
theorem JA{P:Program}{w:World}{K:PySem.W.Frag}{tg:Expr}(it:Addr)(z:Str)(t:Tok):Turn P w K tg (Y5 z) [it] it (λi h=>h.IsStrIter it (strIterType z) z t i)where
 mem:=by simp
 obj:=λi h st b hb=>by
  obtain rfl:b=it:=by simpa using hb
  obtain⟨o,e,c,d⟩:=st;exact⟨o,e,λv q=>by rw[d]at q;cases q⟩
 keep:=λi h h' st k=>by obtain⟨o,e,r⟩:=st;exact⟨o,k it (by simp) o e,r⟩
 item:=by
  intro X B hw y hc i pins s σ H E I l st j;subst B hw y;have hi:i<z.cps.size:=j;have a:z.cps[i]?=some z.cps[i]:=by simp[hi]
  obtain⟨m,n,G,f,p,g⟩:=l it (by simp);have fin:∀h',h'.IsStrIter it (strIterType z) z t (i+1)->Heap.SameBut it s.heap h'->∃u,some (Value.str ⟨#[z.cps[i]]⟩ s.toks)=some u/\wpAny (model X.prog X.w) X.A (letOwnedTupleGo tg (.ref it) u) (λ_ s2=>∃x H',Inv X pins σ H' s2/\RelV x u/\(Y5 z).uT i H x H'/\s2.heap.IsStrIter it (strIterType z) z t (i+1)/\∀b∈[it],H' b=none) E {s with heap:=h',toks:=s.toks+1}:=by intro h' C sb;have D:Inv X pins σ H {s with heap:=h',toks:=s.toks+1}:=I.turned (λb o hb e=>(sb.2 b hb).trans e) m n f p g;obtain⟨o,e,c,d⟩:=id C;refine⟨_,rfl,A_ (s:={s with heap:=h',toks:=s.toks+1}) e c d (by unfold strIterType;split<;>decide) ⟨.str ⟨#[z.cps[i]]⟩,H,D,⟨_,rfl⟩,⟨rfl,_,a,rfl⟩,C,λb hb=>(l b hb).1⟩⟩
  cases ha:z.cps.all (·<128)with
   |true=>
    have e:strIterType z="str_ascii_iterator":=by simp[strIterType,ha]
    rw[e]at st fin⊢;exact wpAny_pyNext_ascii_item st a fin
   |false=>
    have e:strIterType z="str_iterator":=by simp[strIterType,ha]
    rw[e]at st fin⊢;exact wpAny_pyNext_wide_item st a fin
 done:=by
  intro X B hw y hc i pins s σ H E I l st j;subst B hw y;have a:z.cps[i]?=none:=by have j:z.cps.size<=i:=j;simpa using j
  obtain⟨m,n,G,f,p,g⟩:=l it (by simp);have fin:∀h',Heap.ExtBut it s.heap h'->(none:Option Value)=none/\Inv X pins σ H {s with heap:=h'}:=λh' F=>⟨rfl,I.turned (t':=s.toks) (λb o hb e=>F b o hb e) m n f p g⟩;cases ha:z.cps.all (·<128)with
   |true=>
    have e:strIterType z="str_ascii_iterator":=by simp[strIterType,ha]
    rw[e]at st;exact tK (I.hb hc) (I.YJ hc f g) st a fin
   |false=>
    have e:strIterType z="str_iterator":=by simp[strIterType,ha]
    rw[e]at st;exact va (I.hb hc) (I.YJ hc f g) st a fin
 self:=λA i s Q E st h=>by
  cases ha:z.cps.all (·<128)with
   |true=>
    have e:strIterType z="str_ascii_iterator":=by simp[strIterType,ha]
    rw[e]at st;exact wpAny_pyIter_striter_ascii st h
   |false=>
    have e:strIterType z="str_iterator":=by simp[strIterType,ha]
    rw[e]at st;exact wpAny_pyIter_striter_wide st h
noncomputable def aa3(b:TE):TI:=λσ H R=>b σ H λx a=>∃z,x= .str z/\R (Y5 z) a
theorem IX{X:Cx}{tg l:Expr}{c:TE}(hl:PE X l c):PI X tg l (aa3 c):=by
 intro pins s σ H R I h;refine bR (hl pins s σ H _ I h) λv s1 g=>?_;obtain⟨x,d,a,f,z,e,q⟩:=g;subst e;obtain⟨t,rfl⟩:=f;refine wpAny_pyIter_strU ?_;refine⟨s1.heap.objs.size,[s1.heap.objs.size],_,Y5 z,d,rfl,a.kept (t':=s1.toks) λb o e=>cW _ e,JA _ z t,⟨_,gU _ rfl,rfl,rfl⟩,λb hb=>?_,q⟩;obtain rfl:b=s1.heap.objs.size:=by simpa using hb
 exact a.Kp (bB _) (a.cI.fresh (bB _))
structure abf(a b z TI TO i1 i2:Addr)(i:Nat)(h:Heap):Prop where
 z:IsZip h z TI TO .none
 TI:IsPair h TI (.ref i1) (.ref i2)
 TO:∃u v,IsPair h TO u v
 i1:h.IsTupleIter i1 a i
 i2:h.IsTupleIter i2 b i
section
variable{X:Cx}
theorem mP:fA X (.builtin "isinstance") (λxs H Q=>∃x t n b,xs=[x, .ty n]/\jD X.K H x t/\PySem.W.kitOne X.K t (.type n)=some b/\Q (.bl b) H):=by intro pins s σ H xs us Q I r h;obtain⟨x,t,n,b,rfl,ty,e,q⟩:=h;obtain⟨u,v,rfl,a,c⟩:=r.two;obtain rfl:v=Value.type n:=c;exact GS I a ty e λtk=>⟨.bl b,H,I.tok tk,rfl,q⟩
theorem DY:∀{bs:List Bool}{us:List Value},Vals (bs.map V.bl) us->∀(i:Nat)(u:Value),us[i]?=some u->u=Value.bool ((bs[i]?).getD true)|[],_, .nil,i,u,e=>by simp at e|b::bs,_, .cons r t,0,u,e=>by have r:_=Value.bool b:=r;simp at e;rw[<-e,r];rfl|b::bs,_, .cons r t,i+1,u,e=>by simpa using DY t i u (by simpa using e)
theorem km(hc:X.calm=true):fA X (.builtin "all") (λxs H Q=>∃(p:Addr)(bs:List Bool),xs=[.ref p]/\bj X.K H p (bs.map V.bl)/\Q (.bl (bs.all id)) H):=by
 intro pins s σ H xs us Q I r h;obtain⟨p,bs,rfl,hq,q⟩:=h;obtain⟨u,rfl,A⟩:=r.one;cases A;obtain⟨its,f,pl,D⟩:=I.list hq;have hl:=pl.isList;have lt:p<s.heap.objs.size:=by obtain⟨o,e,_⟩:=hl;exact bZ e
 have y:∀a,X.A.in1.handled=some (.ref a)->a≠s.heap.objs.size:=λa c=>by
  rcases I.hb hc with z|⟨b,oe,vs,g,j,_⟩;·rw[show X.A.in1.handled=X.A.handled from rfl,z]at c;cases c
  ·rw[show X.A.in1.handled=X.A.handled from rfl,g]at c;cases c;exact eH (bZ j)
 refine call_all_walk (wpAny_pyIter_list hl ?_);refine⟨s.heap.objs.size,_,[s.heap.objs.size],its.toArray.size,_,_,λi=>(bs[i]?).getD true,rfl,uJ _ p (eH lt) its.toArray y,⟨⟨_,gU _ rfl,rfl,rfl⟩,hl.push _,(I.hb hc).mono λa o _ k=>cW _ k⟩,λi v s' C B l m=>?_,λh' tk t=>?_⟩;·have e:v= .bool ((bs[i]?).getD true):=DY f i v (by simpa using l);subst e;exact wpAny_truthy_bool m
 ·have e:((List.range its.toArray.size).all λi=>(bs[i]?).getD true)=bs.all id:=by
   have n:its.toArray.size=bs.length:=by rw[dt,<-f.length,bT]
   rw[n];clear n;rw[Bool.eq_iff_iff,List.all_eq_true,List.all_eq_true];constructor;·intro z x w;obtain⟨i,hi,rfl⟩:=List.mem_iff_getElem.mp w;have :=z i (by simpa using hi);simpa[hi]using this
   ·intro z i hi;have hi:i<bs.length:=by simpa using hi
    have :=z bs[i] (List.getElem_mem hi);simpa[hi]using this
  refine⟨.bl (bs.all id),H,I.kept (h':=h') (t':=tk) λb o d=>t b o (λhm=>?_) (cW _ d),by rw[e];rfl,q⟩;rw[List.mem_singleton.mp hm]at d;exact Nat.lt_irrefl _ (bZ d)
end
structure k_(K:PySem.W.Frag)(a:Addr)(D:List (Str×V)):Prop where
 sys:(a==sysModules)=false
 ex:∃o es ep,K.lookup a=some o/\o.ExactDict/\o.data= .dict es ep/\KTD.Rows RelV es.toList D
section
variable{X:Cx}{pins:List (Addr×Obj)}{σ:L2.St}{H:Hp}{s:Shared}{a:Addr}{D:List (Str×V)}{k:Str}{tk:Tok}{A:Around}{E:Value->Shared->Prop}
theorem k_.typeIs(T:k_ X.K a D)(I:Inv X pins σ H s):s.TypeIs (.ref a) "dict":=let⟨o,_,_,e,x,_⟩:=T.ex;⟨o,I.ic a o e,x.1⟩
theorem yH{Q:Option Value->Shared->Prop}(T:k_ X.K a D)(I:Inv X pins σ H s)(h1:∀v u,KTD.datumAt k D=some v->RelV v u->Q (some u) {s with toks:=s.toks+1})(h2:KTD.datumAt k D=none->Q none {s with toks:=s.toks+1}):wpAny (model X.prog X.w) A (dictGet a (.str k tk)) Q E s:=by
 obtain⟨_,o,es,ep,n,_,g,f⟩:=T;have h:=I.ic a o n;unfold dictGet;try with_reducible refine wpAny_holding ?_
 have j:(es.all λe=>isExactStrKey e.key)=true:=by obtain⟨l⟩:=es;simpa using f.exact
 refine aw (wpAny_pyHash_str (aw (KTD.kt_dictFind_strs (s:={s with toks:=s.toks+1}) h g j ?_)));have b:Q (findBy (λk v=>v.isStr k) es k) {s with toks:=s.toks+1}:=by
  have m:findBy (λk v=>v.isStr k) es k=(es.toList.find? λe=>e.key.isStr k).map (·.val):=by obtain⟨l⟩:=es;simp[findBy]
  rw[m];cases c:KTD.datumAt k D with|some d=>obtain⟨v,q,p⟩:=f.find_some c;rw[q];exact h1 d v c p|none=>rw[f.find_none c];exact h2 c
 rw[findBy_of_findIdx?]at b;cases hi:es.findIdx? λe=>e.key.isStr k with|none=>rw[hi]at b;exact bf b|some i=>rw[hi]at b;exact aw (wpAny_dictEntries (s:={s with toks:=s.toks+1}) h g (bf b))
theorem Ko{Q:Value->Shared->Prop}{v:V}(T:k_ X.K a D)(I:Inv X pins σ H s)(hd:KTD.datumAt k D=some v)(h:∀u,RelV v u->Q u {s with toks:=s.toks+1}):wpAny (model X.prog X.w) A (getItem (.ref a) (.str k tk)) Q E s:=by
 have ty:=T.typeIs I;unfold getItem;try with_reducible refine wpAny_holding ?_
 refine aw (wpAny_sequenceKey ty (by decide) ?_);refine aw (wpAny_callSpecial?_slot (name:=Str.ofString "__getitem__") ty slot_dict_getitem (wpAny_call_entry slot_dict_getitem ty entry_dict_getitem ?_ (args_dict_getitem _ _)));show wpAny (model X.prog X.w) _ (dictGet a (.str k tk)>>=_) _ _ s;refine aw (yH T I (λb u e r=>?_) λhn=>?_);·rw[hd]at e;cases e;exact bf ⟨u,rfl,bf (h u r)⟩
 ·rw[hd]at hn;cases hn
noncomputable def jk(k:Str)(D:List (Str×V)):Bool:=(KTD.datumAt k D).isSome
theorem za{Q:Bool->Shared->Prop}(T:k_ X.K a D)(I:Inv X pins σ H s)(h:Q (jk k D) {s with toks:=s.toks+1}):wpAny (model X.prog X.w) A (contains (.ref a) (.str k tk)) Q E s:=by
 have ty:=T.typeIs I;unfold contains;try with_reducible refine wpAny_holding ?_
 refine aw (wpAny_specialOf ty slot_dict_contains.lookup ?_);show wpAny (model X.prog X.w) _ (if(some (Value.builtin "dict.__contains__")==some Value.none)=true then _ else _) _ E s;rw[if_neg (by rw[beq_builtin_none];exact fw)];refine aw (wpAny_callSpecialUnlessNone?_slot (name:=Str.ofString "__contains__") ty slot_dict_contains (wpAny_call_entry slot_dict_contains ty entry_dict_contains ?_ (args_dict_contains _ _)));show wpAny (model X.prog X.w) _ (dictGet a (.str k tk)>>=_) _ _ s;refine aw (yH T I (λv u e _=>?_) λhn=>?_)
 ·have hb:jk k D=true:=by unfold jk;rw[e];rfl
  rw[hb]at h;show wpAny (model X.prog X.w) _ (ret (.bool true)) _ _ _;exact bf ⟨_,rfl,wpAny_truthy_bool h⟩
 ·have hb:jk k D=false:=by unfold jk;rw[hn];rfl
  rw[hb]at h;show wpAny (model X.prog X.w) _ (Builtin.Dict.pendingKey? a (.str k tk)>>=_) _ _ _;exact aw (wpAny_pendingKey_other T.sys (bf ⟨_,rfl,wpAny_truthy_bool h⟩))
end
section
variable{X:Cx}
theorem kC:jo X (compareOp .NotIn) (λx y H Q=>∃k a D,x= .str k/\y= .ref a/\k_ X.K a D/\Q (.bl (!jk k D)) H):=by intro pins s σ H x y v u Q I b c h;obtain⟨k,a,D,rfl,rfl,T,q⟩:=h;obtain⟨t,rfl⟩:=b;cases c;show wpAny (model X.prog X.w) _ (do return Value.bool (!(<-contains (.ref a) (.str k t))):Sem Value) _ _ s;exact aw (za T I (bf ⟨.bl _,H,I.tok _,rfl,q⟩))
noncomputable def aam(K:PySem.W.Frag):R2:=λx y H Q=>∃a D k v,x= .ref a/\y= .str k/\k_ K a D/\KTD.datumAt k D=some v/\Q v H
theorem TJ{o i:Expr}{n:Pos}{c ty:TE}(l:PE X o c)(hi:PE X i ty)(m:Yb i):PE X (.Subscript o i n) (fJ (aam X.K) c ty):=by intro pins s σ H Q I h;refine M6 PySem.F.slot_dict_getitem.lookup m (bR (l pins s σ H _ I h) λu s1⟨x,d,g,w,p⟩=>bR (hi pins s1 σ d _ g p) λB s2 A=>?_);obtain⟨y,f,b,z,a,D,k,v,ex,j,T,e,q⟩:=A;subst ex j;cases w;obtain⟨t,rfl⟩:=z;exact⟨T.typeIs b,Ko T b e λu r=>⟨v,f,b.tok _,r,q⟩⟩
end
end L3
end
section
namespace KM
open PySem
inductive D where|bU|bl(b:Bool)|int(i:Int)|str(x:Str)|tup(ds:List D)deriving Inhabited
mutual noncomputable def bK:D->Nat| .tup ds=>1+a_ ds| .bU=>0| .bl _=>0| .int _=>0| .str _=>0 noncomputable def a_:List D->Nat|[]=>0|d::r=>bK d+a_ r end
mutual noncomputable def depth:D->Nat| .tup ds=>1+aO ds| .bU=>0| .bl _=>0| .int _=>0| .str _=>0 noncomputable def aO:List D->Nat|[]=>0|d::r=>max (depth d) (aO r)end
noncomputable def isTup:D->Bool| .tup _=>true|_=>false
noncomputable def tk:D->List D| .tup ds=>ds.filter isTup|_=>[]
noncomputable def lv:Nat->List D->List D|0,l=>l|n+1,l=>lv n (l.flatMap tk)
theorem jr:∀l:List D,a_ (l.filter isTup)=a_ l|[]=>rfl|d::r=>by have a:=jr r;cases d<;>simp[isTup,List.filter_cons,a_,bK,a]
theorem ju:∀l:List D,aO (l.filter isTup)=aO l|[]=>rfl|d::r=>by have a:=ju r;cases d<;>simp[isTup,List.filter_cons,aO,depth,a]
theorem sG:∀l r:List D,a_ (l++r)=a_ l+a_ r|[],r=>by simp[a_]|d::l,r=>by simp[a_,sG l r];lia
theorem uR:∀l r:List D,aO (l++r)=max (aO l) (aO r)|[],r=>by simp[aO]|d::l,r=>by simp only[List.cons_append,aO,uR l r];exact(Nat.max_assoc _ _ _).symm
theorem JM:∀d:D,isTup d=true->bK d=1+a_ (tk d)| .tup ds,_=>by simp[bK,tk,jr]
theorem A1:∀d:D,isTup d=true->depth d=1+aO (tk d)| .tup ds,_=>by simp[depth,tk,ju]
theorem LR(d:D):∀x∈tk d,isTup x=true:=by cases d<;>simp[tk]
theorem tG:∀l:List D,(∀x∈l,isTup x=true)->a_ l=l.length+a_ (l.flatMap tk)|[],_=>rfl|d::r,h=>by have h1:=tG r λx a=>h x (cU _ a);have h2:=JM d (h d b5);simp only[nX,sG,a_,bD];lia
theorem jO:∀l:List D,(∀x∈l,isTup x=true)->l≠[]->aO l=1+aO (l.flatMap tk)|[],_,h=>(h rfl).elim|[d],h,_=>by have h2:=A1 d (h d b5);simp only[nX,List.flatMap_nil,eY,aO];lia|d::e::r,h,_=>by have h1:=jO (e::r) (λx a=>h x (cU _ a)) (by simp);have h2:=A1 d (h d b5);rw[nX,uR];have h3:aO (d::e::r)=max (depth d) (aO (e::r)):=rfl;lia
theorem lI(l:List D):∀x∈l.flatMap tk,isTup x=true:=by intro x a;obtain⟨d,_,h⟩:=List.mem_flatMap.mp a;exact LR d x h
theorem Hg:∀n,lv n []=[]|0=>rfl|n+1=>by rw[lv,List.flatMap_nil];exact Hg n
theorem qj:∀n l,lv (n+1) l=(lv n l).flatMap tk|0,l=>rfl|n+1,l=>by rw[lv,qj n,<-lv]
theorem Ey:∀n l,(∀x∈l,isTup x=true)->∀x∈lv n l,isTup x=true|0,_,h=>h|n+1,l,_=>Ey n _ (lI l)
noncomputable def f_:Nat->List D->Nat|0,_=>0|n+1,l=>f_ n l+(lv n l).length
theorem tO:∀n l,f_ (n+1) l=l.length+f_ n (l.flatMap tk)|0,l=>by simp[f_,lv]|n+1,l=>by have :=tO n l;simp only[f_]at this⊢;rw[show lv (n+1) l=lv n (l.flatMap tk)from rfl];lia
theorem jM:∀n l,(∀x∈l,isTup x=true)->a_ l=f_ n l+a_ (lv n l)|0,l,_=>by simp[f_,lv]|n+1,l,h=>by have h1:=tG l h;have h2:=jM n (l.flatMap tk) (lI l);rw[tO,show lv (n+1) l=lv n (l.flatMap tk)from rfl];lia
theorem tR:∀n l,(∀x∈l,isTup x=true)->(lv n l=[]↔aO l<=n)
 |0,l,h=>by
  cases l with
   |nil=>simp[lv,aO]
   |cons d r=>
    have :=jO (d::r) h (by simp);simp only[lv];constructor;·intro q;cases q
    ·intro q;lia
 |n+1,l,h=>by cases l with|nil=>simp[Hg,aO]|cons d r=>have h1:=jO (d::r) h (by simp);have h2:=tR n ((d::r).flatMap tk) (lI _);rw[show lv (n+1) (d::r)=lv n ((d::r).flatMap tk)from rfl,h2];lia
theorem uG(n:Nat)(l:List D)(h:∀x∈l,isTup x=true):f_ n l<=a_ l:=by have :=jM n l h;lia
theorem Gm(l:List D)(h:∀x∈l,isTup x=true):(f_ 40 l<=600/\lv 40 l=[])↔(a_ l<=600/\aO l<=40):=by
 rw[tR 40 l h];have e:=jM 40 l h;constructor;·rintro⟨h1,h2⟩;rw[(tR 40 l h).mpr h2]at e;simp only[a_]at e;exact⟨by lia,h2⟩
 ·rintro⟨h1,h2⟩;exact⟨by lia,h2⟩
end KM
end
section
namespace L3
open PySem PySem.Spec PyProof.Rows L2 KM
mutual/--v stands for d on the heap H -/noncomputable def Rep(H:Hp):D->V->Prop| .bU,v=>v= .bU| .bl b,v=>v= .bl b| .int i,v=>v= .int i| .str x,v=>v= .str x/\x.length<=1000| .tup ds,v=>∃a vs,v= .ref a/\H a=some (.tup vs)/\bS H ds vs noncomputable def bS(H:Hp):List D->List V->Prop|[],vs=>vs=[]|d::ds,vs=>∃v r,vs=v::r/\Rep H d v/\bS H ds r end
mutual theorem Rep.mono{H H':Hp}(h:aD H H'):∀{d:D}{v:V},Rep H d v->Rep H' d v| .bU,_,r=>r| .bl _,_,r=>r| .int _,_,r=>r| .str _,_,r=>r| .tup _,_,⟨a,vs,e,q,r⟩=>⟨a,vs,e,h _ _ q,bS.mono h r⟩theorem bS.mono{H H':Hp}(h:aD H H'):∀{ds:List D}{vs:List V},bS H ds vs->bS H' ds vs|[],_,r=>r|_::_,_,⟨v,r,e,q,t⟩=>⟨v,r,e,Rep.mono h q,bS.mono h t⟩end
theorem bS.length{H:Hp}:∀{ds:List D}{vs:List V},bS H ds vs->vs.length=ds.length|[],_,r=>by have r:_=[]:=r;rw[r];rfl|_::_,_,⟨v,r,e,q,t⟩=>by rw[e,bD,bD,bS.length t]
theorem bS.get{H:Hp}:∀{ds:List D}{vs:List V}{i:Nat}{d:D},bS H ds vs->ds[i]?=some d->∃v,vs[i]?=some v/\Rep H d v|[],_,_,_,_,e=>by simp at e|d::_,_,0,_,⟨v,r,e,q,t⟩,h=>by simp at h;subst h;exact⟨v,by rw[e];rfl,q⟩|_::ds,_,i+1,d,⟨v,r,e,q,t⟩,h=>by obtain⟨u,h1,h2⟩:=bS.get (i:=i) t (by simpa using h);exact⟨u,by rw[e];simpa using h1,h2⟩
theorem bS.get'{H:Hp}{ds:List D}{vs:List V}{i:Nat}{v:V}(r:bS H ds vs)(e:vs[i]?=some v):∃d,ds[i]?=some d/\Rep H d v:=by have hi:i<vs.length:=(List.getElem?_eq_some_iff.mp e).1;rw[r.length]at hi;obtain⟨u,h1,h2⟩:=r.get (d:=ds[i]) (i:=i) (by simp[hi]);rw[e]at h1;cases h1;exact⟨ds[i],by simp[hi],h2⟩
theorem bS.append{H:Hp}:∀{ds es:List D}{vs us:List V},bS H ds vs->bS H es us->bS H (ds++es) (vs++us)|[],_,_,_,r,q=>by have r:_=[]:=r;subst r;exact q|_::_,_,_,_,⟨v,r,e,p,t⟩,q=>by subst e;exact⟨v,r++_,rfl,p,bS.append t q⟩
theorem bS.one{H:Hp}{d:D}{v:V}(r:Rep H d v):bS H [d] [v]:=⟨v,[],rfl,r,rfl⟩
theorem bS.snoc{H:Hp}{ds:List D}{vs:List V}{d:D}{v:V}(r:bS H ds vs)(q:Rep H d v):bS H (ds++[d]) (vs++[v]):=r.append (bS.one q)
noncomputable def tyD:D->String| .bU=>"NoneType"| .bl _=>"bool"| .int _=>"int"| .str _=>"str"| .tup _=>"tuple"
theorem Rep.ty{K:PySem.W.Frag}{H:Hp}:∀{d:D}{v:V},Rep H d v->jD K H v (.type (tyD d))| .bU,_,r=>by cases(show _=V.bU from r);exact .bU| .bl b,_,r=>by cases(show _=V.bl b from r);exact .bl b| .int i,_,r=>by cases(show _=V.int i from r);exact .int i| .str x,_,r=>by cases(show _=V.str x from r.1);exact .str x| .tup _,_,⟨a,vs,e,q,_⟩=>by cases e;exact .tup q
noncomputable def bO:D->Bool| .str _=>true|_=>false
theorem Mz(K:PySem.W.Frag)(d:D):PySem.W.kitOne K (.type (tyD d)) (.type "tuple")=some (isTup d):=by cases d<;>rfl
theorem Ng(K:PySem.W.Frag)(d:D):PySem.W.kitOne K (.type (tyD d)) (.type "str")=some (bO d):=by cases d<;>rfl
theorem ak{H:Hp}{p:Addr}(h:H p=none)(o:HO):aD H (upd H p o):=λb u q=>by rw[bc (aI q h)];exact q
end L3
end
section
namespace L3
open PySem PySem.Spec PyProof.Rows L2
theorem part_of{u:Value}{o:Option Int}(p:IsPart u o):∃q:Option (Int×Tok),u=partValue q/\q.map (·.1)=o:=by cases p with|none=>exact⟨none,rfl,rfl⟩|int i t=>exact⟨some (i,t),rfl,rfl⟩
noncomputable def Zm(t u:TS):TS:=λD σ H=>∃M:L2.St->Hp->Prop,t {D with nx:=M} σ H/\∀a H',M a H'->u D a H'
theorem eB{X:Cx}{st:Stmt}{rest:List Stmt}{t u:TS}(h1:PS X st t)(h2:jx X rest u):jx X (st::rest) (Zm t u):=by intro pins s σ H D I h;obtain⟨M,h,c⟩:=h;refine wpAny_execs_cons (bR (h1 pins s σ H {D with nx:=M} I h) λf s1 q=>?_);cases f with|next=>obtain⟨a,H',b,q⟩:=q;exact h2 pins s1 a H' D b (c a H' q)|ret v=>exact q|brk=>exact q|cont=>exact q
theorem jG{J:It}{g:TG}{tb:TS}{D:Ends}{σ:L2.St}{H:Hp}(n:Nat)(Pv:Nat->L2.St->Hp->Prop)(j:Pv 0 σ H)(k:∀i σ H,i<n->Pv i σ H->J.go i H/\∀x H',J.uT i H x H'->g x σ H' λc a=>tb {D with nx:=Pv (i+1),ct:=Pv (i+1),bk:=D.nx} c a)(hd:∀σ H,Pv n σ H->J.stop n H/\D.nx σ H):∃W:Nat->Nat->L2.St->Hp->Prop,(∃m,W 0 m σ H)/\∀i m σ H,W i m σ H->(J.stop i H/\D.nx σ H)\/(J.go i H/\∃N:L2.St->Hp->Prop,(∀b H',N b H'->∃e,e<m/\W (i+1) e b H')/\∀x H',J.uT i H x H'->g x σ H' λc a=>tb {D with nx:=N,ct:=N,bk:=D.nx} c a):=by
 refine⟨λi m σ H=>m=n-i/\i<=n/\Pv i σ H,⟨n,by simp,fV _,j⟩,?_⟩;rintro i m σ H⟨rfl,hi,p⟩;by_cases d:i<n;·obtain⟨f,h⟩:=k i σ H d p;exact .inr ⟨f,Pv (i+1),λb H' l=>⟨n-(i+1),by lia,rfl,d,l⟩,h⟩
 ·obtain rfl:i=n:=by lia
  exact .inl (hd σ H p)
def bM(p:Addr)(H H':Hp):Prop:=∀b o,b≠p->H b=some o->H' b=some o
theorem bM.trans{p:Addr}{H d e:Hp}(a:bM p H d)(b:bM p d e):bM p H e:=λc o n h=>b c o n (a c o n h)
theorem _root_.L2.aD.x{p:Addr}{H H':Hp}(a:aD H H'):bM p H H':=λc o _ h=>a c o h
theorem bM.upd{p:Addr}{H:Hp}(o:HO):bM p H (upd H p o):=λb u n h=>by rw[bc n];exact h
mutual theorem Rep.gS{p:Addr}{H H':Hp}(h:bM p H H')(hp:∀vs,H p≠some (.tup vs)):∀{d:KM.D}{v:V},Rep H d v->Rep H' d v| .bU,_,r=>r| .bl _,_,r=>r| .int _,_,r=>r| .str _,_,r=>r| .tup _,_,⟨a,vs,e,q,r⟩=>⟨a,vs,e,h _ _ (λz=>hp vs (by rw[<-z];exact q)) q,bS.gS h hp r⟩theorem bS.gS{p:Addr}{H H':Hp}(h:bM p H H')(hp:∀vs,H p≠some (.tup vs)):∀{ds:List KM.D}{vs:List V},bS H ds vs->bS H' ds vs|[],_,r=>r|_::_,_,⟨v,r,e,q,t⟩=>⟨v,r,e,Rep.gS h hp q,bS.gS h hp t⟩end
section
variable{prog:Program}{w:World}{A:Around}{E:Value->Shared->Prop}{s:Shared}{d:Addr}{o:Obj}{es:Array DictEntry}{ep:Nat}{hsh:Int}
end
section
variable{X:Cx}{pins:List (Addr×Obj)}{σ:L2.St}{H:Hp}{s:Shared}{a:Addr}{D:List (Str×V)}{A:Around}{E:Value->Shared->Prop}
end
end L3
end
section
namespace L3
open PySem L2
section
variable{prog:Program}{w:World}{A:Around}{E:Value->Shared->Prop}{s:Shared}
end
section
variable{prog:Program}{w:World}{A:Around}{E:Value->Shared->Prop}{s:Shared}
end
end L3
end
section
namespace L3
open PySem PySem.Spec PyProof.Rows L2
structure aa6(a b z TI TO i1 i2:Addr)(i:Nat)(h:Heap):Prop where
 z:IsZip h z TI TO .none
 TI:IsPair h TI (.ref i1) (.ref i2)
 TO:∃u v,IsPair h TO u v
 i1:h.IsListIter i1 a i
 i2:h.IsListIter i2 b i
theorem sv:bootBuiltins "tuple"=some (.type "tuple"):=by decide+kernel
theorem lN:bootBuiltins "int"=some (.type "int"):=by decide+kernel
theorem BP:bootBuiltins "str"=some (.type "str"):=by decide+kernel
theorem Nh:bootBuiltins "list"=some (.type "list"):=by decide+kernel
theorem cu:bootBuiltins "len"=some (.builtin "len"):=by decide+kernel
theorem c_:bootBuiltins "isinstance"=some (.builtin "isinstance"):=by decide+kernel
theorem Jd:bootBuiltins "all"=some (.builtin "all"):=by decide+kernel
theorem Qv:bootBuiltins "max"=some (.builtin "max"):=by decide+kernel
def Df(K:PySem.W.Frag)(mg:Str->Option Value)(x:Str)(st:Stmt)(ps:List Str):Prop:=∃f fd,NI K x x st f fd/\mg x=some (.ref f)/\Binds K fd ps []
noncomputable def da(P:Program)(w:World)(K:PySem.W.Frag)(mg:Str->Option Value)(CX:nU)(x:Str)(k:Nat)(ps:List Str)(sp:Sp):Prop:=∃f fd,(∀base,nP P w K mg base CX k f fd ps sp)/\mg x=some (.ref f)/\PySem.W.keepIn K (.ref f)=true/\Binds K fd ps []
section
variable{P:Program}{w:World}{K:PySem.W.Frag}{mg:Str->Option Value}
theorem Df.ok{x:Str}{st:Stmt}{N ps:List Str}{k:Nat}{sp:Sp}(D:Df K mg x st ps)(S:aJ N ps (aq st))(len:∀vs H Q E,sp vs H Q E->vs.length=ps.length)(a:∀(base:Heap)(f:Addr)(cH:Value)(A:Around)(outer:List Env)(s:Shared)(H:Hp)(vs:List V)(Q:VK)(E:XK),cV k (A.deeper (envOfC x (aq st) s.heap.objs.size f cH))->sp vs H Q E->∃t,jx (d_ cR P w K mg base N x (aq st) f cH A outer s H E).DT (bN st) t/\t {nx:=λ_ H'=>Q .bU H',rt:=Q} (start N vs) H):da P w K mg cR x (k+1) ps sp:=by obtain⟨f,fd,F,m,b⟩:=D;exact⟨f,fd,λbase=>F.ok S len (a base f),m,F.kp,b⟩
theorem da.never{x:Str}{st:Stmt}{ps:List Str}{sp:Sp}{k:Nat}{CX:nU}(D:Df K mg x st ps)(no:∀vs H Q E,¬sp vs H Q E):da P w K mg CX x k ps sp:=by obtain⟨f,fd,F,m,b⟩:=D;exact⟨f,fd,λbase=>⟨λvs H Q E h=>absurd h (no vs H Q E),λA outer s H args us vs Q E _ _ _ _ h=>absurd h (no vs H Q E)⟩,m,F.kp,b⟩
end
noncomputable def zF(h:Heap)(H:Hp)(fs:List Addr):Heap:=PySem.W.hideAll (ub h H) fs
theorem zX{h:Heap}{H:Hp}{fs:List Addr}{b:Addr}{o:Obj}(e:h.get? b=some o)(n:H b=none)(a:b∉fs):(zF h H fs).get? b=some o:=PySem.W.hideAll_get _ (AF e n) a
theorem M8{h:Heap}{H:Hp}{fs:List Addr}{b:Addr}{o:Obj}(e:(zF h H fs).get? b=some o):h.get? b=some o/\H b=none:=Ee (PySem.W.of_hideAll fs e)
theorem Ga(h:Heap)(H:Hp)(fs:List Addr):(zF h H fs).objs.size=h.objs.size:=(PySem.W.hideAll_size _ _).trans (vZ h H)
theorem kZ{h B c:Heap}:∀{l:List Env},h.FunFrames B l->(∀L∈jn l,c.get? L=none)->h.FunFrames c l|[],_,_=>trivial|env::l,⟨d,⟨L,o,a,_,e,hd⟩,f⟩,hn=>⟨d,⟨L,o,a,hn L (by unfold jn;rw[nV,a];exact b5),e,hd⟩,kZ f λb hb=>hn b (by unfold jn at hb⊢;rw[nV,a];exact cU _ hb)⟩
theorem LM{X:Cx}{pins:List (Addr×Obj)}{σ:L2.St}{H:Hp}{s:Shared}(I:Inv X pins σ H s)(hc:X.calm=true):Az X.prog X.w X.K X.mg (zF s.heap H (jn X.stack)) X.A X.stack s H:=by
 have l:∀b o,X.base.get? b=some o->b∉jn X.stack:=λb o e z=>by
  rcases List.mem_cons.mp (I.iD b z)with z|z;·have :=bZ e;rw[z]at this;exact absurd this (Nat.not_lt.mpr (dI I.ok.G5 I.ok.above))
  ·exact I.ok.Wi e z
 have c:∀b o,X.base.get? b=some o->(zF s.heap H (jn X.stack)).get? b=some o:=λb o e=>zX (I.bs b o e).1 (I.bs b o e).2 (l b o e);obtain⟨mb,f,g⟩:=I.ok.mod.blt;refine⟨I.ok.frames,⟨I.ok.mod.FE.keeps c,I.ok.mod.glob.keeps c,⟨mb,f.keeps c,g⟩,I.ok.mod.nolimit.keeps c,I.ok.mod.bm.keeps c⟩,λb o e=>M8 e,Nat.le_of_eq (Ga _ _ _),kZ I.stack λL k=>PySem.W.hideAll_none _ k,I.xA,I.cI,I.bare,?_⟩;rcases I.ok.hd hc with h|⟨a,oe,vs,i,d,j⟩;·exact .inl h
 ·refine .inr ⟨a,oe,vs,i,?_,j⟩;rcases d with d|d;·exact c a oe d
  ·obtain⟨m,n,p,q,_⟩:=I.pin (a,oe) (kP _ d);refine zX m n λz=>?_;rcases List.mem_cons.mp (I.iD a z)with z|z;·exact p z
   ·exact q z
theorem ka{X:Cx}{CX:nU}{k:Nat}{f:Addr}{fd:FuncData}{ps:List Str}{sp:Sp}{E:XK}{pins:List (Addr×Obj)}{σ:L2.St}{H:Hp}{s:Shared}{Q:VK}{us:List Value}{vs:List V}{a:Value->Shared->Prop}(F:∀base,nP X.prog X.w X.K X.mg base CX k f fd ps sp)(c:cV k X.A)(hb:Binds X.K fd ps [])(I:Inv X pins σ H s)(hc:X.calm=true)(d:∀e s',CX X.A.handled X.stack H s E e s'->a e s')(r:Vals vs us)(h:sp vs H Q E):wpAny (model X.prog X.w) X.A (call (.ref f) us) (EP X pins σ Q) a s:=by
 have hl:us.length=ps.length:=by rw[<-r.length];exact(F (zF s.heap H (jn X.stack))).len _ _ _ _ h
 have b:=hb s us I.ic (by rw[eY];exact hl);rw[eY]at b;refine wpAny_call (codeAny_mono ((F _).run X.A X.stack s H ⟨us,[]⟩ us vs Q E c (LM I hc) b r h) λr s' hq=>?_);cases r with|error e=>exact d e s' hq|ok fl=>cases fl with|ret u=>exact I.after hq|next=>exact False.elim hq|brk=>exact False.elim hq|cont=>exact False.elim hq
theorem bA{X:Cx}{CX:nU}{x:Str}{k:Nat}{ps:List Str}{sp:Sp}{E:XK}{e:Expr}{es:List Expr}{t:TA}{p c:Pos}(F:da X.prog X.w X.K X.mg CX x k ps sp)(n:cV k X.A)(j:Gl X x)(o:Passes CX X E)(ha:PA X (e::es) t)(g:(x==("__debug__":Str))=false:=by decide)(i:starEach (e::es) X.env=(false,eval e X.env)::starEach es X.env:=by rfl)(l:(backTo c (starEach es X.env)).any (·.1)=false:=by rfl)(hc:X.calm=true:=by rfl):PE X (.Call (.Name x p) (e::es) [] c) (mV sp [] E t):=by obtain⟨f,fd,F,m,kp,b⟩:=F;intro pins s σ H Q I h;refine wpAny_Call_Name_kw (gy I j m ?_ g);refine PySem.W.callWith_K (h₀:=X.base) I.ok.mod.FE kp (bR (ha c pins s σ H _ I h) λus s1⟨vs,d,a,r,q⟩=>⟨a.ic,?_⟩) i l;have q:sp (vs++[]) d Q E:=q;rw[eY]at q;exact ka F n b a hc (λe s' hc=>o pins σ d s1 e s' a hc) r q
theorem kU{X:Cx}{x:Str}{i:Int}{b:Pos}(hm:∃t,X.mg x=some (.int i t))(a:Gl X x)(hd:(x==("__debug__":Str))=false:=by decide):PE X (.Name x b) (tC (.int i)):=by obtain⟨t,hm⟩:=hm;exact yp a hm ⟨t,rfl⟩ hd
theorem Es{X:Cx}{x:Str}{z:Str}{b:Pos}(hm:∃t,X.mg x=some (.str z t))(a:Gl X x)(hd:(x==("__debug__":Str))=false:=by decide):PE X (.Name x b) (tC (.str z)):=by obtain⟨t,hm⟩:=hm;exact yp a hm ⟨t,rfl⟩ hd
theorem bV{X:Cx}{x:Str}{a:Addr}{c:Pos}(hm:X.mg x=some (.ref a))(b:Gl X x)(hd:(x==("__debug__":Str))=false:=by decide):PE X (.Name x c) (tC (.ref a)):=yp b hm rfl hd
theorem JY{X:Cx}{x:Str}{n:String}{c:Pos}(hm:X.mg x=none)(b:bootBuiltins x=some (.type n))(a:Gl X x)(hn:x≠"__name__":=by decide)(hd:(x==("__debug__":Str))=false:=by decide):PE X (.Name x c) (tC (.ty n)):=Ni a hm b rfl hn hd
noncomputable def Iy(outer:List (Str×NameKind))(N N':List Str)(own:Nat)(fr:List Nat)(scope:Scope):Bool:=scope.names.all (λy=>y.2 != .cell&&(y.2 != .local||scope.names.lookup y.1==some .local)&&(y.2 != .free||outer.lookup y.1==some .cell||outer.lookup y.1==some .free))&&decide (N'.length=own+fr.length)&&(List.range fr.length).all (λj=>match fr[j]? with
 |some i=>match N'[own+j]? with|some x=>N[i]?==some x&&scope.names.lookup x==some .free|none=>false
 |none=>true)
theorem jF{X:Cx}{N N':List Str}{own:Nat}{fr:List Nat}{sc scope:Scope}(g:X.env.scope=sc)(c:X.N=N)(f:scope.kind= .function)(h:Iy sc.names N N' own fr scope=true):kN X N' own fr scope:=by
 unfold Iy at h;simp only[bW,List.all_eq_true,decide_eq_true_eq]at h;obtain⟨⟨h1,h2⟩,h3⟩:=h;subst c;refine⟨f,λy a=>?_,λy a e=>?_,λy a e=>?_,h2,λj i e=>?_⟩;·simpa using(h1 y a).1.1
 ·have :=(h1 y a).1.2;simpa[e]using this
 ·have :=(h1 y a).2;unfold Env.kindOf;rw[g];simpa[e]using this
 ·have d:j<fr.length:=(List.getElem?_eq_some_iff.mp e).1;have :=h3 j (by simpa using d);rw[e]at this;cases b:N'[own+j]? with|none=>simp[b]at this|some x=>simp only[b,bW,beq_iff_eq]at this;exact⟨x,rfl,this.1,this.2⟩
theorem Gb(a v:Value):argsOk "max" ⟨[a],[(Str.ofString "default",v)]⟩:=by unfold argsOk;kernel_rfl
section
variable{prog:Program}{w:World}{A:Around}{E:Value->Shared->Prop}{s:Shared}
theorem zR{id:String}{b:Builtin}{args:List Value}{a:List (Str×Value)}{Q:Value->Shared->Prop}(g:builtinKind id=none)(h:plainId id=true)(hb:entryFor table id=some b)(ha:argsOk id ⟨args,a⟩)(hc:wpAny (model prog w) A.in1 (b ⟨args,a⟩) (λfin s'=>match fin with| .done f=>(match(Except.ok f:Result)with| .ok (.ret v)=>Q v s'| .ok _=>False| .error e=>E e s')| .again c=>c.quiet=true/\codeAny (model prog w) A c (λr s'=>match r with| .ok (.ret v)=>Q v s'| .ok _=>False| .error e=>E e s') s') E s):wpAny (model prog w) A (call (.builtin id) args a) Q E s:=by refine wpAny_call (codeAny_call_builtin h hb ?_);simp only[checkBuiltinCall,g];cases i:Manifest.signature? id with|none=>exact bf hc|some d=>simp only[argsOk,i]at ha;have h2:Bind.checkArgs id d ⟨args,a⟩=pure ():=ha;show wpAny _ A.in1 (Bind.checkArgs id d ⟨args,a⟩) _ _ s;rw[h2];exact bf hc
theorem Nj{i j:Int}{t u:Tok}{Q:Value->Shared->Prop}(h:Q (.bool (decide (i>j))) s):wpAny (model prog w) A (richCompare .Gt (.int i t) (.int j u)) Q E s:=richCompare_gives (op:= .Gt) (typeIs_int s _ t) (typeIs_int s _ u) F.slot_int_gt F.entry_int_gt (F.args_int_gt_2 _ _) (gives_int_gt _ _ t u) (λx=>nomatch x) h
end
noncomputable def S0(m x:Int):Int:=if x>m then x else m
noncomputable def maxD(ns:List Int)(d:Int):Int:=match ns with|[]=>d|a::r=>r.foldl S0 a
def TN(ns:List Int)(j:Nat)(l:Array Value):Prop:=(j=0/\l=#[])\/(0<j/\∃t,l=#[.int (maxD (ns.take j) 0) t, .int (maxD (ns.take j) 0) t])
theorem FZ{l:List Int}(x d:Int)(h:l≠[]):maxD (l++[x]) d=S0 (maxD l d) x:=by cases l with|nil=>exact absurd rfl h|cons a r=>simp[maxD,List.foldl_append]
section
variable{prog:Program}{w:World}{A:Around}{R:Result->Shared->Prop}{I:Addr}{fp wr:List Addr}{P:Nat->Value->Prop}{St:Nat->Heap->Prop}
theorem GX{ns:List Int}{d:Value}(W:Walks prog w A.in1 I fp wr ns.length P St)(V:∀(i:Nat)v,P i v->∃x t,ns[i]?=some x/\v= .int x t)(S:Addr)(N:S∉fp):∀(k j:Nat)(s:Shared)(l:Array Value)(c:Nat),ns.length-j=k->j<=ns.length->St j s.heap->TN ns j l->s.heap.get? S=some {cls:= .type "list",dict:=none,data:= .seq l c,slots:=#[]}->(∀v h' tk,(ns=[]/\v=d\/ns≠[]/\∃t,v= .int (maxD ns 0) t)->(∀b o,b∉wr->b≠S->s.heap.get? b=some o->h'.get? b=some o)->R (.ok (.ret v)) {s with heap:=h',toks:=tk})->codeAny (model prog w) A (.builtin "max.loop" ⟨[.ref I, .none, .ref S],[(Str.ofString "default",d)]⟩) R s:=by
 have O:S∉wr:=λh=>N (W.sub _ h);have T:(toString "max"++toString ".loop":String)="max.loop":=by decide
 intro k;induction k with
  |zero=>
   intro j s l c Z Y D hb p n;have y:j=ns.length:=by lia
   refine codeAny_builtin F.entry_max_loop ?_;rw[Around.under_plainId F.plain_max_loop _];show wpAny _ A.in1 (seqItems? (.ref S)>>=_) _ _ s;refine aw (wpAny_seqItems p rfl ?_);rcases hb with⟨K,rfl⟩|⟨K,t,rfl⟩;·show wpAny _ A.in1 (tryCatch (pyNext (.ref I)) _>>=_) _ _ s;refine aw (wpAny_tryCatch (W.done s _ _ (y▸D) λh' tk f=>?_));show wpAny _ A.in1 (rule _>>=_) _ _ _;refine aw (wpAny_rule (bf ?_));have e:ns=[]:=List.eq_nil_of_length_eq_zero (by lia);exact n d _ tk (.inl ⟨e,rfl⟩) λb o a g q=>f b o a q
   ·show wpAny _ A.in1 (tryCatch (pyNext (.ref I)) _>>=_) _ _ s;refine aw (wpAny_tryCatch (W.done s _ _ (y▸D) λh' tk f=>?_));have m:=f S _ O p;show wpAny _ A.in1 (updateSeq S (λ_=>#[])>>=_) _ _ _;refine aw ?_;refine wpAny_updateSeq m rfl (aw (wpAny_letGo (bf ?_)));have e:ns≠[]:=λz=>by rw[z]at y;simp at y;lia
    refine n _ _ tk (.inr ⟨e,t,by rw[y,List.take_length]⟩) λb o a g q=>(jj _ _ (Ne.symm g)).trans (f b o a q)
  |succ k U=>
   intro j s l c Z Y D hb p n;have C:j<ns.length:=by lia
   refine codeAny_builtin F.entry_max_loop ?_;rw[Around.under_plainId F.plain_max_loop _];show wpAny _ A.in1 (seqItems? (.ref S)>>=_) _ _ s;refine aw (wpAny_seqItems p rfl ?_);have X:∀x,ns[j]?=some x->ns.take (j+1)=ns.take j++[x]:=λx G=>by rw[List.take_add_one,G];rfl
   rcases hb with⟨K,rfl⟩|⟨K,t,rfl⟩
   ·show wpAny _ A.in1 (tryCatch (pyNext (.ref I)) _>>=_) _ _ s;refine aw (wpAny_tryCatch (W.item j s _ _ C D λv h' tk M L f=>?_));obtain⟨x,u,G,rfl⟩:=V j v M;have m:=f S _ O p;show wpAny _ A.in1 (updateSeq S (λ_=>#[.int x u, .int x u])>>=_) _ _ _;refine aw ?_;refine wpAny_updateSeq m rfl ?_;rw[T];refine bf ⟨plainId_quiet F.plain_max_loop _,U (j+1) _ _ _ (by lia) C (W.frame _ _ _ L λb Q o e=>?_) (.inr ⟨by lia,u,?_⟩) (Heap.get?_update_self _ m rfl) λJ r H E B=>?_⟩;·exact(jj _ _ (λh:S=b=>N (by rw[h];exact Q))).trans e
    ·rw[X x G,K];rfl
    ·exact n J r H E λb o a g e=>B b o a g ((jj _ _ (Ne.symm g)).trans (f b o a e))
   ·show wpAny _ A.in1 (tryCatch (pyNext (.ref I)) _>>=_) _ _ s;refine aw (wpAny_tryCatch (W.item j s _ _ C D λv h' tk M L f=>?_));obtain⟨x,u,G,rfl⟩:=V j v M;have m:=f S _ O p;have ne:ns.take j≠[]:=λz=>by
     have :(ns.take j).length=0:=by rw[z];rfl
     rw[dU]at this;lia
    have em:maxD (ns.take (j+1)) 0=S0 (maxD (ns.take j) 0) x:=by rw[X x G,FZ x 0 ne]
    show wpAny _ A.in1 (tryCatch (holding [.int x u, .int x u] (richCompare .Gt (.int x u) (.int (maxD (ns.take j) 0) t)>>=_)) _>>=_) _ _ _;refine aw (wpAny_tryCatch (wpAny_holding (aw (Nj ?_))));refine aw (wpAny_holding (wpAny_truthy_bool ?_));refine aw (wpAny_letGo (bf ?_));by_cases hb:x>maxD (ns.take j) 0
    ·rw[decide_eq_true hb];simp only[if_true];refine aw ?_;refine wpAny_updateSeq m rfl (aw (wpAny_letGo ?_));rw[T];refine bf ⟨plainId_quiet F.plain_max_loop _,U (j+1) _ _ _ (by lia) C (W.frame _ _ _ L λb Q o e=>?_) (.inr ⟨by lia,u,?_⟩) (Heap.get?_update_self _ m rfl) λJ r H E B=>?_⟩;·exact(jj _ _ (λh:S=b=>N (by rw[h];exact Q))).trans e
     ·rw[em,S0,if_pos hb]
     ·exact n J r H E λb o a g e=>B b o a g ((jj _ _ (Ne.symm g)).trans (f b o a e))
    ·rw[decide_eq_false hb];simp only[Bool.false_eq_true,if_false];refine aw (wpAny_letGo ?_);rw[T];refine bf ⟨plainId_quiet F.plain_max_loop _,U (j+1) _ _ c (by lia) C L (.inr ⟨by lia,t,?_⟩) m λJ r H E B=>?_⟩;·rw[em,S0,if_neg hb]
     ·exact n J r H E λb o a g e=>B b o a g (f b o a e)
end
theorem ints_get:∀{ns:List Int}{us:List Value},Vals (ns.map V.int) us->∀(i:Nat)(u:Value),us[i]?=some u->∃x t,ns[i]?=some x/\u= .int x t|[],_, .nil,i,u,e=>by simp at e|n::ns,_, .cons r t,0,u,e=>by obtain⟨tk,r⟩:=r;simp at e;exact⟨n,tk,rfl,by rw[<-e,r]⟩|n::ns,_, .cons r t,i+1,u,e=>by simpa using ints_get t i u (by simpa using e)
section
variable{X:Cx}{pins:List (Addr×Obj)}{σ:L2.St}{H:Hp}{s:Shared}
theorem Iz{p:Addr}{ns:List Int}{i:Int}{v:Value}{Q:VK}(hc:X.calm=true)(I:Inv X pins σ H s)(hq:bj X.K H p (ns.map V.int))(E:RelV (.int i) v)(q:Q (.int (maxD ns i)) H):wpAny (model X.prog X.w) X.A (call (.builtin "max") [.ref p] [(Str.ofString "default",v)]) (EP X pins σ Q) X.xe s:=by
 obtain⟨its,r,pl,G⟩:=I.list hq;have hl:=pl.isList;have lt:p<s.heap.objs.size:=by obtain⟨o,e,_⟩:=hl;exact bZ e
 have D:∀a,X.A.in1.handled=some (.ref a)->a≠s.heap.objs.size:=λa c=>by
  rcases I.hb hc with z|⟨b,oe,vs,h,k,_⟩;·rw[show X.A.in1.handled=X.A.handled from rfl,z]at c;cases c
  ·rw[show X.A.in1.handled=X.A.handled from rfl,h]at c;cases c;exact eH (bZ k)
 have y:(toString "max"++toString ".loop":String)="max.loop":=by decide
 refine zR F.kind_max F.plain_max F.entry_max (Gb _ _) ?_;show wpAny _ X.A.in1 (Builtin.Builtins.bindParams "max" ["key","default"] 0 ⟨[],[(Str.ofString "default",v)]⟩>>=_) _ _ s;refine aw (wpAny_of_eq (show Builtin.Builtins.bindParams "max" ["key","default"] 0 ⟨[],[(Str.ofString "default",v)]⟩=pure [none,some v]from rfl) ?_);refine aw (bf ?_);refine aw (wpAny_pyIter_list hl ?_);refine aw (wpAny_newObj_type ?_);have len:its.toArray.size=ns.length:=by rw[dt,<-r.length,bT]
 have l:=uJ (prog:=X.prog) (w:=X.w) (A:=X.A.in1) s.heap.objs.size p (eH lt) its.toArray D;rw[len]at l;rw[y];have n:((s.heap.push {cls:= .type "list_iterator",data:= .fields #[.ref p, .int 0 0]}).objs.size)∉s.heap.objs.size::p::FJ X.A.in1:=by
  rw[Heap.size_push];intro z;rcases List.mem_cons.mp z with z|z;·exact Nat.succ_ne_self _ z
  ·rcases List.mem_cons.mp z with z|z;·rw[<-z]at lt;exact Nat.not_succ_lt_self lt
   ·have g:=Kf z;rcases I.hb hc with q|⟨b,oe,vs,h,k,_⟩;·rw[show X.A.in1.handled=X.A.handled from rfl,q]at g;cases g
    ·rw[show X.A.in1.handled=X.A.handled from rfl,h]at g;cases g;exact Nat.not_succ_lt_self (bZ k)
 refine bf ⟨plainId_quiet F.plain_max_loop _,GX (d:=v) l (λj u e=>ints_get r j u (by simpa using e)) _ n _ 0 _ #[] _ rfl (fV _) ?_ (.inl ⟨rfl,rfl⟩) (gU _ rfl) λu h' tk C x=>?_⟩;·exact⟨⟨_,cW _ (gU _ rfl),rfl,rfl⟩,(hl.push _).push _,(I.hb hc).mono λa o _ m=>cW _ (cW _ m)⟩
 ·refine⟨.int (maxD ns i),H,I.kept (h':=h') (t':=tk) λb o f=>x b o (λhm=>?_) (λhm=>?_) (cW _ (cW _ f)),?_,q⟩;·rw[List.mem_singleton.mp hm]at f;exact Nat.lt_irrefl _ (bZ f)
  ·have :=bZ f;rw[hm,Heap.size_push]at this;exact Nat.not_succ_lt_self this
  ·rcases C with⟨rfl,rfl⟩|⟨B,t,rfl⟩;·exact E
   ·refine⟨t,?_⟩;cases ns with|nil=>exact absurd rfl B|cons a r=>rfl
end
noncomputable def Wk(K:PySem.W.Frag)(t tk:TA):TE:=λσ H Q=>t σ H λvs b=>tk σ b λc a=>∃p ns i,vs=[.ref p]/\c=[.int i]/\bj K a p (ns.map V.int)/\Q (.int (maxD ns i)) a
theorem Mi{X:Cx}{e d:Expr}{t tk:TA}{p kp a:Pos}(hm:X.mg "max"=none)(ha:PA X [e] t)(k:PK X [⟨some (Str.ofString "default"),d,kp⟩] tk)(hc:X.calm=true:=by rfl)(j:Gl X "max":=by rfl)(b:starEach [e] X.env=[(false,eval e X.env)]:=by rfl):PE X (.Call (.Name "max" p) [e] [⟨some (Str.ofString "default"),d,kp⟩] a) (Wk X.K t tk):=by intro pins s σ H Q I h;refine wpAny_Call_Name_kw (jS I j hm Qv ?_);refine callWith_kw (bR (ha a pins s σ H _ I h) λus s1⟨vs,c,f,n,l⟩=>bR (k a pins s1 σ c _ f l) λws s2⟨y,x,g,o,m⟩=>?_) (by rw[b];rfl) (by rw[b];rfl);obtain⟨p,ns,i,rfl,rfl,hq,q⟩:=m;obtain⟨u,rfl,r⟩:=n.one;cases r;obtain⟨v,rfl,w⟩:=o.one;exact Iz hc g hq w q
theorem gR{H a:Hp}{p:Addr}{o:HO}(h:aD H a)(c:H p=none):aD H (upd a p o):=λb u q=>by rw[bc (aI q c)];exact h b u q
theorem KA{J:It}{p:Addr}{k:Hp}{g:TG}{z:TT}{w:TE}{b:L2.St}{C:Hp->Prop}(n:Nat)(f:Nat->Option V)(s:k p=none)(hn:n<=sizeLine)(D:∀i a,i<n->aD k a->J.go i a/\∀x h,J.uT i a x h->∀(R:V->Hp->Prop)(r:Hp->Prop),(∀v j,f i=some v->aD a j->R v j)->(∀d,f i=none->aD a d->r d)->g x b h λo q=>z o q λok d=>if ok=true then w o d R else r d)(hd:∀a,aD k a->a p=some (.lst ((List.range n).filterMap f))->J.stop n a/\C a):∃W:Nat->Nat->List V->Hp->Prop,(∃m,W 0 m [] (upd k p (.lst [])))/\∀i m c a,W i m c a->(J.stop i a/\C a)\/(J.go i a/\∀x h,J.uT i a x h->g x b h λo q=>z o q λok d=>if ok=true then w o d λv j=>j p=some (.lst c)/\c.length<sizeLine/\∃l,l<m/\W (i+1) l (c++[v]) (upd j p (.lst (c++[v])))else∃l,l<m/\W (i+1) l c d):=by
 refine iW (Q:=λ_ H=>C H) n (λi c a=>c=(List.range i).filterMap f/\a p=some (.lst c)/\aD k a) ⟨rfl,ag,ak s _⟩ ?_ ?_
 ·rintro i c a hi⟨rfl,h2,s2⟩;obtain⟨A,B⟩:=D i a hi s2;have E:((List.range i).filterMap f).length<sizeLine:=by have :=List.length_filterMap_le f (List.range i);rw[List.length_range]at this;lia
  refine⟨A,λx h y=>B x h y _ _ (λv j e u=>⟨u _ _ h2,E,nx hi ⟨?_,ag,gR (s2.trans u) s⟩⟩) λd e t=>nx hi ⟨?_,t _ _ h2,s2.trans t⟩⟩;·rw[List.range_succ,List.filterMap_append];simp[e]
  ·rw[List.range_succ,List.filterMap_append];simp[e]
 ·rintro c a⟨rfl,h2,s2⟩;exact hd a s2 h2
theorem vJ{J:It}{p:Addr}{h:Hp}{g:TG}{s:TE}{b:L2.St}{C:Hp->Prop}(n:Nat)(f:Nat->V)(q:h p=none)(hn:n<=sizeLine)(w:∀i a,i<n->aD h a->J.go i a/\∀x d,J.uT i a x d->∀(R:V->Hp->Prop),(∀e,aD a e->R (f i) e)->g x b d λk l=>s k l R)(hd:∀a,aD h a->a p=some (.lst ((List.range n).map f))->J.stop n a/\C a):∃W:Nat->Nat->List V->Hp->Prop,(∃m,W 0 m [] (upd h p (.lst [])))/\∀i m c a,W i m c a->(J.stop i a/\C a)\/(J.go i a/\∀x d,J.uT i a x d->g x b d λk l=>BN k l λok o=>if ok=true then s k o λv e=>e p=some (.lst c)/\c.length<sizeLine/\∃j,j<m/\W (i+1) j (c++[v]) (upd e p (.lst (c++[v])))else∃j,j<m/\W (i+1) j c o):=by
 refine iW (Q:=λ_ H=>C H) n (λi c a=>c=(List.range i).map f/\a p=some (.lst c)/\aD h a) ⟨rfl,ag,ak q _⟩ ?_ ?_;·rintro i c a hi⟨rfl,h2,s2⟩;obtain⟨t,u⟩:=w i a hi s2;refine⟨t,λx d y=>?_⟩;simp only[BN,if_true];refine u x d y _ λe r=>⟨r _ _ h2,by rw[bT,List.length_range];lia,nx hi ⟨?_,ag,gR (s2.trans r) q⟩⟩;rw[List.range_succ,List.map_append];rfl
 ·rintro c a⟨rfl,h2,s2⟩;exact hd a s2 h2
noncomputable def sA(xs ys:List V):Bool:=decide (xs.length=ys.length)&&(List.range xs.length).all λj=>Gd ((xs[j]?).getD .bU) ((ys[j]?).getD .bU)
noncomputable def aag(K:PySem.W.Frag):R2:=λx y H Q=>∃p q xs ys,x= .ref p/\y= .ref q/\bj K H p xs/\bj K H q ys/\xs.all gA=true/\ys.all gA=true/\Q (.bl (sA xs ys)) H
theorem RB{X:Cx}(F:X.A.units+1<cLine):jo X (compareOp .Eq) (aag X.K):=by
 intro pins s σ H x y v u Q I B C h;obtain⟨p,q,xs,ys,rfl,rfl,t,w,o,r,h⟩:=h;cases B;cases C;obtain⟨its,k,f,_⟩:=I.list t;obtain⟨c,l,g,_⟩:=I.list w;have l1:=k.length;have l2:=l.length;by_cases d:xs.length=ys.length
 ·refine SeqAt.eq_listAt f.isList g.isList (e:=λj=>Gd ((xs[j]?).getD .bU) ((ys[j]?).getD .bU)) (by simp;lia) (by lia) (λj h1 h2=>?_) ⟨.bl _,H,I,rfl,?_⟩
  ·have a:j<xs.length:=by simpa[l1]using h1
   have b:j<ys.length:=by simpa[l2]using h2
   obtain⟨D,m,k1⟩:=k.get (i:=j) (x:=xs[j]) (by simp[a]);obtain⟨E,n,k2⟩:=l.get (i:=j) (x:=ys[j]) (by simp[b]);have z:its.toArray[j]=D:=by
    have :its[j]?=some its.toArray[j]:=by simp
    rw[m]at this;exact(Option.some.inj this).symm
   have A:c.toArray[j]=E:=by
    have :c[j]?=some c.toArray[j]:=by simp
    rw[n]at this;exact(Option.some.inj this).symm
   rw[z,A];simp only[cN a,cN b,Option.getD_some];exact Cd k1 k2 (List.all_eq_true.mp o _ (List.getElem_mem a)) (List.all_eq_true.mp r _ (List.getElem_mem b))
  ·have e:sA xs ys=(List.range its.toArray.size).all λj=>Gd ((xs[j]?).getD .bU) ((ys[j]?).getD .bU):=by unfold sA;rw[decide_eq_true d,Bool.true_and,dt,l1]
   rw[e]at h;exact h
 ·have e:sA xs ys=false:=by unfold sA;rw[decide_eq_false d,Bool.false_and]
  rw[e]at h;exact SeqAt.eq_list_lengthsAt f.isList g.isList (by simp;lia) (by lia) ⟨.bl false,H,I,rfl,h⟩
noncomputable def aao(K:PySem.W.Frag):R2:=λx y H Q=>∃p q xs ys,x= .ref p/\y= .ref q/\bj K H p xs/\bj K H q ys/\xs.all gA=true/\ys.all gA=true/\Q (.bl (!sA xs ys)) H
theorem Br{X:Cx}(F:X.A.units+1<cLine):jo X (compareOp .NotEq) (aao X.K):=by
 intro pins s σ H x y v u Q I B C h;obtain⟨p,q,xs,ys,rfl,rfl,t,w,o,r,h⟩:=h;cases B;cases C;obtain⟨its,k,f,_⟩:=I.list t;obtain⟨c,l,g,_⟩:=I.list w;have l1:=k.length;have l2:=l.length;by_cases d:xs.length=ys.length
 ·refine SeqAt.RcNeAt.lists f.isList g.isList (e:=λj=>Gd ((xs[j]?).getD .bU) ((ys[j]?).getD .bU)) (by simp;lia) (by lia) (λj h1 h2=>?_) _ _ _ _ ⟨.bl _,H,I,rfl,?_⟩
  ·have a:j<xs.length:=by simpa[l1]using h1
   have b:j<ys.length:=by simpa[l2]using h2
   obtain⟨D,m,k1⟩:=k.get (i:=j) (x:=xs[j]) (by simp[a]);obtain⟨E,n,k2⟩:=l.get (i:=j) (x:=ys[j]) (by simp[b]);have z:its.toArray[j]=D:=by
    have :its[j]?=some its.toArray[j]:=by simp
    rw[m]at this;exact(Option.some.inj this).symm
   have A:c.toArray[j]=E:=by
    have :c[j]?=some c.toArray[j]:=by simp
    rw[n]at this;exact(Option.some.inj this).symm
   rw[z,A];simp only[cN a,cN b,Option.getD_some];exact Cd k1 k2 (List.all_eq_true.mp o _ (List.getElem_mem a)) (List.all_eq_true.mp r _ (List.getElem_mem b))
  ·have e:sA xs ys=(List.range its.toArray.size).all λj=>Gd ((xs[j]?).getD .bU) ((ys[j]?).getD .bU):=by unfold sA;rw[decide_eq_true d,Bool.true_and,dt,l1]
   rw[e]at h;exact h
 ·have e:sA xs ys=false:=by unfold sA;rw[decide_eq_false d,Bool.false_and]
  rw[e]at h;exact SeqAt.RcNeAt.lists_lengths f.isList g.isList (by simp;lia) (by lia) _ _ _ _ ⟨.bl true,H,I,rfl,h⟩
end L3
end
section
namespace HT
open PySem PyProof.Rows
section
open PySem.SeqAt
open PySem.AutoSeq1(wpAny_loadPart')
open PySem.MeetsSeq PySem.MeetsSeq2 PySem.MeetsSeq3
variable{prog:Program}{w:World}{A:Around}{E:Value->Shared->Prop}{s:Shared}
theorem jl{t sl:Addr}{items:Array Value}{b c:Value}{lo hi:Option Int}{Q:Value->Shared->Prop}(ht:IsTup s.heap t items)(a:s.heap.IsSliceOf sl b c .none)(pl:IsPart b lo)(i:IsPart c hi)(h1:cZ items.size 0 lo=0)(h2:cZ items.size items.size hi=items.size)(h:Q (.ref t) s):wpAny (model prog w) A (getItem (.ref t) (.ref sl)) Q E s:=by
 obtain⟨os,f,e,j⟩:=id a;have d:s.TypeIs (.ref sl) "slice":=⟨os,f,e⟩;unfold getItem;try with_reducible refine wpAny_holding ?_
 first|refine aw (bf ?_)|skip
 refine aw (wpAny_sequenceKey ht.typeIs (by decide) ?_);refine aw (wpAny_callSpecial?_slot (name:=Str.ofString "__getitem__") ht.typeIs PyProof.Rows.slot_tuple_getitem (wpAny_call_entry PyProof.Rows.slot_tuple_getitem ht.typeIs entry_tuple_getitem ?_ (args_tuple_getitem _ _)));show wpAny _ _ (Builtin.Tuple.tupleItemsOf (.ref t)>>=_) _ _ s;refine aw (tupleItemsOf_ ht ?_);refine aw (wpAny_typeOf d ?_);rw[if_pos (by decide)];refine aw (gH a pl i ?_);have g:(((cZ items.size 0 lo:Nat):Int)==0&&(1:Int)==1&&(cZ items.size items.size hi-cZ items.size 0 lo)==items.size)=true:=by rw[h1,h2];simp
 show wpAny _ _ (if(((cZ items.size 0 lo:Nat):Int)==0&&(1:Int)==1&&(cZ items.size items.size hi-cZ items.size 0 lo)==items.size)=true then _ else _) _ _ s;rw[if_pos g];show wpAny _ _ (Builtin.Tuple.tupleIsExact (.ref t)>>=_) _ _ s;refine aw ?_;unfold Builtin.Tuple.tupleIsExact;refine aw (wpAny_typeOf ht.typeIs (bf ?_));rw[if_pos (by decide)];exact aw (wpAny_rule (bf ⟨_,rfl,bf h⟩))
end
end HT
end
section
namespace L3
open PySem PySem.Spec PyProof.Rows L2
noncomputable def aar(K:PySem.W.Frag):V->Option Int->Option Int->Hp->VK->Prop:=λx lo hi H Q=>∃a xs,x= .ref a/\gG K H a xs/\(∀p,H p=none->Q (.ref p) (upd H p (.tup (eG xs lo hi))))/\(eG xs lo hi=xs->Q (.ref a) H)
theorem MU{X:Cx}:Za X (aar X.K):=by
 intro pins s σ H x v i j lo hi sl Q I e b pl d h;obtain⟨a,xs,rfl,c,f,g⟩:=h;by_cases hw:HT.cZ xs.length 0 lo=0/\HT.cZ xs.length xs.length hi=xs.length
 ·cases e;obtain⟨its,r,ht,k⟩:=I.tuple c;have hlen:its.toArray.size=xs.length:=by rw[dt];exact r.length.symm
  refine⟨"tuple",_,PyProof.Rows.slot_tuple_getitem.lookup,ht.typeIs,?_⟩;refine HT.jl ht b pl d (by rw[hlen];exact hw.1) (by rw[hlen];exact hw.2) ⟨.ref a,H,I,rfl,g ?_⟩;unfold eG;rw[hw.1,hw.2,List.drop_zero,Nat.sub_zero,List.take_length]
 ·exact Q_ pins s σ H _ v i j lo hi sl Q I e b pl d ⟨a,xs,rfl,c,hw,f⟩
theorem vV(xs:List V)(k:Nat):eG xs (some (k:Int)) none=xs.drop k:=by
 unfold eG;rw[HT.k6,HT.gu];by_cases h:k<=xs.length;·rw[Nat.min_eq_left h];exact nM (by rw[dJ];lia)
 ·rw[Nat.min_eq_right (by lia),xu (bB _),xu (show xs.length<=k by lia)];simp
theorem Mh(xs:List V)(k:Nat):eG xs none (some (k:Int))=xs.take k:=by
 unfold eG;rw[HT.k6,HT.gu,List.drop_zero,Nat.sub_zero];by_cases h:k<=xs.length;·rw[Nat.min_eq_left h]
 ·rw[Nat.min_eq_right (by lia),nM (bB _),nM (show xs.length<=k by lia)]
section
variable{X:Cx}{K:PySem.W.Frag}
theorem xx(a:X.K=K:=by rfl):fA X (.builtin "isinstance") (λxs H Q=>∃x t n b,xs=[x, .ty n]/\jD K H x t/\PySem.W.kitOne K t (.type n)=some b/\Q (.bl b) H):=by subst a;exact mP
theorem A0(a:X.K=K:=by rfl):Vu X (BJ K):=by subst a;exact aP
theorem BL(a:X.K=K:=by rfl):jo X (compareOp .In) (rIn K false):=by subst a;exact dX
end
noncomputable def Rc:List Nat->Nat|[]=>0|a::r=>max a (Rc r)
end L3
end
section
namespace L3
open PySem PySem.Spec L2
variable{K:PySem.W.Frag}
def Mp(K:PySem.W.Frag)(a:Addr)(xs:List V):Prop:=∃(o:Obj)(its:Array Value)(n:Nat),K.lookup a=some o/\o.cls= .type "tuple"/\o.data= .seq its n/\its.size<=sizeLine/\Vals xs its.toList
structure KD(K:PySem.W.Frag)(a:Addr)(rows:List (Str×List V))(as:List Addr):Prop where
 len:as.length=rows.length
 tab:k_ K a ((rows.zip as).map λp=>(p.1.1,V.ref p.2))
 sq:∀p∈rows.zip as,Mp K p.2 p.1.2
theorem jf{d g:Type}{x:Str}(f:(Str×d)×g->V):∀(rows:List (Str×d))(as:List g),as.length=rows.length->(∃r a,(r,a)∈rows.zip as/\r.1=x/\rows.lookup x=some r.2/\PyProof.Rows.KTD.datumAt x ((rows.zip as).map λp=>(p.1.1,f p))=some (f (r,a)))\/(rows.lookup x=none/\PyProof.Rows.KTD.datumAt x ((rows.zip as).map λp=>(p.1.1,f p))=none)
 |[],_,_=> .inr ⟨rfl,rfl⟩
 |(k,v)::rows,[],h=>by simp at h
 |(k,v)::rows,a::as,h=>by
  have i:=jf (x:=x) f rows as (by simpa using h);by_cases e:x=k;·subst e;exact .inl ⟨(x,v),a,b5,rfl,by simp[List.lookup],by simp[PyProof.Rows.KTD.datumAt]⟩
  ·have c:(x==k)=false:=by simpa using e
   have j:¬k=x:=λz=>e z.symm;rcases i with⟨r,b,h1,h2,h3,h4⟩|⟨h1,h2⟩;·exact .inl ⟨r,b,cU _ h1,h2,by rw[jg,c];exact h3,by simp only[List.zip_cons_cons,gQ,PyProof.Rows.KTD.datumAt,e,decide_false,Bool.false_eq_true,if_false];exact h4⟩
   ·exact .inr ⟨by rw[jg,c];exact h1,by simp only[List.zip_cons_cons,gQ,PyProof.Rows.KTD.datumAt,e,decide_false,Bool.false_eq_true,if_false];exact h2⟩
theorem KD.some{a:Addr}{rows:List (Str×List V)}{as:List Addr}(T:KD K a rows as){x:Str}{ds:List V}(h:rows.lookup x=Option.some ds):∃b,PyProof.Rows.KTD.datumAt x ((rows.zip as).map λp=>(p.1.1,V.ref p.2))=Option.some (.ref b)/\∀H,gG K H b ds:=by
 rcases jf (x:=x) (λp=>V.ref p.2) rows as T.len with⟨r,b,h1,h2,h3,h4⟩|⟨h1,_⟩;·rw[h]at h3;cases h3;exact⟨b,h4,λH=> .inr (T.sq _ h1)⟩
 ·rw[h]at h1;cases h1
theorem KD.jk{a:Addr}{rows:List (Str×List V)}{as:List Addr}(T:KD K a rows as)(x:Str):L3.jk x ((rows.zip as).map λp=>(p.1.1,V.ref p.2))=(rows.lookup x).isSome:=by
 unfold L3.jk;rcases jf (x:=x) (λp=>V.ref p.2) rows as T.len with⟨r,b,h1,h2,h3,h4⟩|⟨h1,h2⟩;·rw[h3,h4];rfl
 ·rw[h1,h2];rfl
noncomputable def aV:List V->List Value->Bool|[],[]=>true| .str x::vs, .str y _::us=>decide (x=y)&&aV vs us| .int i::vs, .int j _::us=>decide (i=j)&&aV vs us|_,_=>false
theorem jE:∀{vs:List V}{us:List Value},aV vs us=true->Vals vs us|[],[],_=> .nil| .str x::vs, .str y t::us,h=>by simp only[aV,bW,decide_eq_true_eq]at h;obtain⟨rfl,h⟩:=h;exact .cons ⟨t,rfl⟩ (jE h)| .int x::vs, .int y t::us,h=>by simp only[aV,bW,decide_eq_true_eq]at h;obtain⟨rfl,h⟩:=h;exact .cons ⟨t,rfl⟩ (jE h)|[],_::_,h=>by simp[aV]at h|_::_,[],h=>by simp[aV]at h| .bU::_,_::_,h=>by simp[aV]at h| .bl _::_,_::_,h=>by simp[aV]at h| .GC _::_,_::_,h=>by simp[aV]at h| .Qe _::_,_::_,h=>by simp[aV]at h| .ref _::_,_::_,h=>by simp[aV]at h| .ty _::_,_::_,h=>by simp[aV]at h| .str _::_, .none::_,h=>by simp[aV]at h| .str _::_, .int _ _::_,h=>by simp[aV]at h| .str _::_, .ref _::_,h=>by simp[aV]at h| .str _::_, .bool _::_,h=>by simp[aV]at h| .str _::_, .float _ _::_,h=>by simp[aV]at h| .str _::_, .bytes _ _::_,h=>by simp[aV]at h| .str _::_, .type _::_,h=>by simp[aV]at h| .str _::_, .builtin _::_,h=>by simp[aV]at h| .str _::_, .ellipsis::_,h=>by simp[aV]at h| .str _::_, .notImplemented::_,h=>by simp[aV]at h| .int _::_, .none::_,h=>by simp[aV]at h| .int _::_, .str _ _::_,h=>by simp[aV]at h| .int _::_, .ref _::_,h=>by simp[aV]at h| .int _::_, .bool _::_,h=>by simp[aV]at h| .int _::_, .float _ _::_,h=>by simp[aV]at h| .int _::_, .bytes _ _::_,h=>by simp[aV]at h| .int _::_, .type _::_,h=>by simp[aV]at h| .int _::_, .builtin _::_,h=>by simp[aV]at h| .int _::_, .ellipsis::_,h=>by simp[aV]at h| .int _::_, .notImplemented::_,h=>by simp[aV]at h
noncomputable def cJ(vs:List V)(its:Array Value):Bool:=aV vs its.toList&&decide (its.size<=100)
theorem cX{K:PySem.W.Frag}{a:Addr}{d:Option Addr}{its:Array Value}{n:Nat}{sl:Array (Option Value)}{vs:List V}(h:K.lookup a=some ⟨.type "tuple",d, .seq its n,sl⟩)(c:cJ vs its=true):Mp K a vs:=by simp only[cJ,bW,decide_eq_true_eq]at c;exact⟨_,its,n,h,rfl,rfl,dI c.2 (by decide),jE c.1⟩
noncomputable def g9:List DictEntry->List Str->Bool|[],[]=>true|e::es,k::a=>(match e.key,e.val with| .str x _, .ref _=>decide (x=k)|_,_=>false)&&g9 es a|_,_=>false
noncomputable def refsOf(es:List DictEntry):List Addr:=es.map λe=>match e.val with| .ref a=>a|_=>0
theorem E8:∀{es:List DictEntry}{a:List Str},g9 es a=true->PyProof.Rows.KTD.Rows RelV es ((a.zip (refsOf es)).map λp=>(p.1,V.ref p.2))
 |[],[],_=> .nil
 |[],_::_,h=>by simp[g9]at h
 |_::_,[],h=>by simp[g9]at h
 |e::es,k::a,h=>by
  obtain⟨d,c,val⟩:=e;rw[g9,bW]at h;cases c with
   |str x t=>
    cases val with
     |ref b=>
      have h1:x=k:=by simpa using h.1
      subst h1;exact .cons rfl rfl (E8 h.2)
     |_=>simp at h
   |_=>simp at h
theorem Wu{a:Addr}{es:Array DictEntry}{ep:Nat}{rows:List (Str×List V)}{as:List Addr}(e:(a==sysModules)=false)(c:K.lookup a=some ⟨.type "dict",none, .dict es ep,#[]⟩)(b:g9 es.toList (rows.map (·.1))=true)(d:refsOf es.toList=as)(hl:as.length=rows.length)(sq:∀p∈rows.zip as,Mp K p.2 p.1.2):KD K a rows as:=by refine⟨hl,⟨e,_,es,ep,c,⟨rfl,rfl,rfl⟩,rfl,?_⟩,sq⟩;have h:=E8 b;rw[d,List.zip_map_left,List.map_map]at h;exact h
theorem cz{r:Str×List V}{b:Addr}{rows:List (Str×List V)}{as:List Addr}(h:Mp K b r.2)(t:∀p∈rows.zip as,Mp K p.2 p.1.2):∀p∈(r::rows).zip (b::as),Mp K p.2 p.1.2:=λp a=>by
 rcases List.mem_cons.mp a with rfl|a;·exact h
 ·exact t p a
theorem RU:∀p∈([]:List (Str×List V)).zip ([]:List Addr),Mp K p.2 p.1.2:=λp a=>by simp at a
noncomputable def g8:List DictEntry->List (Str×Int)->Bool|[],[]=>true|e::es,(k,i)::a=>(match e.key,e.val with| .str x _, .int j _=>decide (x=k)&&decide (j=i)|_,_=>false)&&g8 es a|_,_=>false
theorem sj:∀{es:List DictEntry}{a:List (Str×Int)},g8 es a=true->PyProof.Rows.KTD.Rows RelV es (a.map λp=>(p.1,V.int p.2))
 |[],[],_=> .nil
 |[],_::_,h=>by simp[g8]at h
 |_::_,[],h=>by simp[g8]at h
 |e::es,(k,i)::a,h=>by
  obtain⟨d,c,val⟩:=e;rw[g8,bW]at h;cases c with
   |str x t=>
    cases val with
     |int b u=>
      have h1:x=k/\b=i:=by simpa using h.1
      obtain⟨rfl,rfl⟩:=h1;exact .cons rfl ⟨u,rfl⟩ (sj h.2)
     |_=>simp at h
   |_=>simp at h
theorem ML{a:Addr}{es:Array DictEntry}{ep:Nat}{rows:List (Str×Int)}(d:(a==sysModules)=false)(c:K.lookup a=some ⟨.type "dict",none, .dict es ep,#[]⟩)(b:g8 es.toList rows=true):k_ K a (rows.map λp=>(p.1,V.int p.2)):=⟨d,_,es,ep,c,⟨rfl,rfl,rfl⟩,rfl,sj b⟩
end L3
end
section
namespace L3
open PySem PySem.Spec PyProof.Rows L2
structure MadeX(h h':Heap)(e C:Addr)(hh:Option Value):Prop where
 keeps:∀b o,h.get? b=some o->h'.get? b=some o
 new:h.get? e=none
 there:∃oe vs t c,h'.get? e=some oe/\oe.cls= .ref C/\oe.data= .fields vs/\vs[0]?=some (.ref t)/\vs[1]?=some .none/\vs[2]?=some c/\(hh=none->c= .none)
section
variable{prog:Program}{w:World}{A:Around}{E:Value->Shared->Prop}{s:Shared}
theorem F9{h:Type}{Q:h->Shared->Prop}{h₀:Heap}{e C:Addr}{vs:List Value}(hb:HB h₀ A)(hm:Heap.MadeExcOf h₀ s.heap e (.ref C) vs)(g:∀h',MadeX h₀ h' e C A.handled->E (.ref e) {s with heap:=h'}):wpAny (model prog w) A (raiseNew (.ref e):Sem h) Q E s:=by
 obtain⟨t,f,_,_⟩:=hm.there;simp only[raiseNew];refine aw (wpAny_handled ?_);rcases hb with hb|⟨a,oe,ws,hb,c,i,j⟩;·rw[hb];refine aw (bf (wpAny_throw (g s.heap ⟨hm.keeps,hm.new,_,_,t,_,f,rfl,rfl,rfl,rfl,rfl,λ_=>rfl⟩)))
 ·rw[hb];have ne:a≠e:=λz=>by rw[z,hm.new]at c;cases c
  dsimp only;rw[if_pos (by simpa using ne)];refine aw (wpAny_holding (z9 (hm.keeps _ _ c) i j ?_));refine aw ?_;show wpAny (model prog w) A (setField (.ref e) 2 (.ref a)) _ _ _;refine wpAny_setField f rfl (by simp) (wpAny_throw (g _ ⟨λb o d=>?_,hm.new,_,_,t, .ref a,Heap.get?_update_self _ f (Obj.isFreed_of_fields (Obj.data_mapFields rfl _)),Obj.cls_mapFields _ _,Obj.data_mapFields rfl _,by simp,by simp,by simp,λz=>by rw[hb]at z;cases z⟩));rw[jj _ _ λz=>by rw[<-z,hm.new]at d;cases d];exact hm.keeps b o d
end
def lO(K:PySem.W.Frag)(C:Addr):Prop:=∃a newId b,ExcBaseFacts "ValueError" newId b a/\PySem.W.excIn K C a newId=true
theorem so{K:PySem.W.Frag}{h:Heap}{C:Addr}{i:List Value}{newId:String}(X:K.In h)(q:PySem.W.excIn K C i newId=true):∃bm N nm f bs p g sub d e dd a k1 k2 b c o,h.get? C=some (excClassObj nm f C N bs bm p g sub d e dd a k1 k2 b c newId)/\h.Ns N o/\o "__init__"=none/\OwnTail h i bm:=by
 unfold PySem.W.excIn at q;split at q
 ·rename_i dd cd sl r;split at q
  ·rename_i t bm a k1 k2 b n c hm m;simp only[bW,beq_iff_eq,Bool.not_eq_true']at q;obtain⟨⟨⟨⟨⟨rfl,rfl⟩,j⟩,ht⟩,cI⟩,k⟩:=q;obtain⟨nm,bs,v,ns,f,hd,g,sub,d,e,u⟩:=cd;dsimp only at hm j cI k;subst hm j;have s:sl=#[a,k1,k2,b,some (.builtin n),c]:=by obtain⟨l⟩:=sl;simp only at m;rw[m]
   subst s;exact⟨bm,ns,nm,f,bs,hd,g,sub,d,e,dd,a,k1,k2,b,c,_,X _ _ r, .of_isNs (PySem.W.isNs_of_in X cI),PySem.W.nsMap_none_of_in X cI k,PySem.W.tail_of_in X ht⟩
  ·cases q
 ·cases q
noncomputable def Tw(G:Hp->Prop)(t:TA):TS:=λD σ H=>t σ H λvs a=>vs.length<=100/\G a
theorem ej{X:Cx}{G:Hp->Prop}{x:Str}{C:Addr}{b:Expr}{t:TA}{n ee Y:Pos}(A:lO X.K C)(hm:X.mg x=some (.ref C))(ha:PA X [b] t)(O:∀pins σ H s e h',Inv X pins σ H s->MadeX s.heap h' e C X.A.handled->G H->X.xe (.ref e) {s with heap:=h'})(hc:X.calm=true:=by rfl)(L:Gl X x:=by rfl)(E:(x==("__debug__":Str))=false:=by decide)(J:starEach [b] X.env=[(false,eval b X.env)]:=by rfl):PS X (.Raise (some (.Call (.Name x n) [b] [] ee)) none Y) (Tw G t):=by
 intro pins s σ H D I h;obtain⟨SO,newId,BB,FB,q⟩:=A;have U:wpAny (model X.prog X.w) X.A (eval (.Call (.Name x n) [b] [] ee) X.env) (λv a=>∃e t h₀ vs,v= .ref e/\X.K.In a.heap/\a.heap.get? e=some {cls:= .ref C,data:= .fields #[.ref t, .none, .none, .none, .bool false, .none]}/\HB h₀ X.A/\Heap.MadeExcOf h₀ a.heap e (.ref C) vs/\∀h',MadeX h₀ h' e C X.A.handled->X.xe (.ref e) {a with heap:=h'}) X.xe s:=by refine wpAny_Call_Name_kw (gy I L hm ?_ E);have m:=ha ee pins s σ H _ I h;rw[J]at m⊢;unfold callWith;refine aw (wpAny_holding (Calls.evalArgs_plain (bR m λus s1⟨vs,o,i,r,hl,g⟩=>aw (wpAny_standAt ?_))));obtain⟨bm,N,nm,Z,bs,F,sn,sub,p,u,dd,Q,k1,k2,R,S,V,c,j,k,T⟩:=so i.ic q;have hb:=i.hb hc;have M:=O pins σ o s1;have FE:=i.ic;obtain⟨l,w,d,tk,os⟩:=s1;show wpAny _ _ (keeperOf (.ref C)>>=_) _ _ _;refine aw (wpAny_keeperOf_exc c ?_);refine aw (wpAny_call_exc_subT (hrest:=by rw[jh,<-r.length];exact dI hl (by decide)) FB T c j k λh' e f=>aw (wpAny_holding (wpAny_point (bf ?_))));obtain⟨t,ht,_,_⟩:=f.there;exact⟨e,t,l,_,rfl,FE.keeps f.keeps,ht,hb,f,λy W=>M e y i W g⟩
 rw[arm_exec_Raise];refine aw (wpAny_standAt ?_);unfold raiseStmt;refine aw (aw (bR U λv a P=>aw (wpAny_standAt (bf ?_))));obtain⟨e,t,h₀,vs,rfl,FE,K,hb,f,z⟩:=P;obtain⟨bm,N,nm,Z,bs,F,sn,sub,p,u,dd,Q,k1,k2,R,S,V,c,j,k,T⟩:=so FE q;have B:(Value.ref C::bm).contains (.type "BaseException")=true:=by rw[List.contains_cons,T.hasType FB.hasBase,Bool.or_true]
 obtain⟨l,w,d,tk,os⟩:=a;repeat(first|with_reducible refine wpAny_loadPart_at K ?_|with_reducible refine wpAny_loadPart_at c ?_|(with_reducible refine wpAny_isSubtype_exc c ?_;rw[B])|wp_step)
 exact F9 hb f z
def Ex(h:Heap)(a C:Addr)(T c:Value):Prop:=∃oe vs a0,h.get? a=some oe/\oe.cls= .ref C/\oe.data= .fields vs/\vs[0]?=some a0/\vs[1]?=some T/\vs[2]?=some c
def Tb(h:Heap)(T:Addr)(fl:Value):Prop:=∃a b,h.get? T=some a/\a.data= .fields b/\b[3]?=some fl
structure GZ(fs:List Addr)(xs:List Addr)(h h':Heap):Prop where
 keep:∀b o,h.get? b=some o->b∉fs->b∉xs->h'.get? b=some o
 slot:∀b o,h.get? b=some o->b∈fs->b∉xs->∃sl,h'.get? b=some {o with slots:=sl}
section
variable{M:Model}{A:Around}{E:Value->Shared->Prop}{s:Shared}
theorem Hb{base:Heap}{l:List Env}{b:Addr}{o:Obj}{vs:Array Value}(hl:s.heap.FunFrames base l)(e:s.heap.get? b=some o)(d:o.data= .fields vs):b∉jn l:=λhm=>by obtain⟨_,o',a,c⟩:=hl.mem hm;rw[e]at a;cases a;exact c vs d
theorem vF{base:Heap}{env:Env}{outer:List Env}{L a C:Addr}{head T c:Value}{r:Bool}{Q:Unit->Shared->Prop}(u:A.frames=some (env::outer))(hl:s.heap.FunFrames base (env::outer))(t:env.frame=some L)(x:Ex s.heap a C T c)(h:∀h' d,Ex h' a C (.ref d) c->Tb h' d (rawInt L)->s.heap.get? d=none->d≠a->GZ (jn (env::outer)) [a] s.heap h'->Q () {s with heap:=h'}):wpAny M A (do let f<-frameOf env;let pl<-entryPlaceOf L r;let b<-EntryCells.newEntry head f .none (rawInt L) .none pl;setField (.ref a) 1 b) Q E s:=by
 obtain⟨oe,vs,a0,k,hc,hd,q,h1,h2⟩:=x;have v:a∉jn (env::outer):=Hb hl k hd;refine aw (wpAny_frameOf_fun u hl t λk1 g=>aw (wpAny_entryPlaceOf λpl l=>?_));unfold EntryCells.newEntry newFields;refine aw (wpAny_newObj_type ?_ (l.sizeOk5 _ _ _ _ _));have j:k1.get? a=some oe:=(g.2.1 a v).trans k;have sz:k1.objs.size=s.heap.objs.size:=g.1;have p:k1.objs.size≠a:=Nat.ne_of_gt (bZ j);refine wpAny_setField (cW _ j) hd (Array.getElem?_eq_some_iff.mp h1).1 (h _ k1.objs.size ?_ ?_ ?_ p ?_)
 ·refine⟨_,_,a0,Heap.get?_update_self _ (cW _ j) (Obj.isFreed_of_fields (Obj.data_mapFields hd _)),(Obj.cls_mapFields _ _).trans hc,Obj.data_mapFields hd _,?_,?_,?_⟩;·rw[Array.getElem?_setIfInBounds_ne (by decide)];exact q
  ·have :=(Array.getElem?_eq_some_iff.mp h1).1;simp[this]
  ·rw[Array.getElem?_setIfInBounds_ne (by decide)];exact h2
 ·refine⟨_,_,(jj _ _ (Ne.symm p)).trans (gU _ rfl),rfl,?_⟩;first|(simp;done)|(rcases l with rfl|⟨_,_,_,_,_,_,_,rfl⟩<;>simp)
 ·rw[sz];exact Heap.get?_none_of_le (bB _)
 ·refine⟨λb o e n m=>?_,λb o e n m=>?_⟩;·have i:k1.get? b=some o:=(g.2.1 b n).trans e;rw[jj _ _ λz=>m (by simp[z])];exact cW _ i
  ·obtain⟨sl,i⟩:=g.2.2 b o e;refine⟨sl,?_⟩;rw[jj _ _ λz=>m (by simp[z])];exact cW _ i
theorem BG{base:Heap}{env:Env}{outer:List Env}{L a C:Addr}{c:Value}{Q:Unit->Shared->Prop}(f:A.frames=some (env::outer))(hl:s.heap.FunFrames base (env::outer))(d:env.frame=some L)(x:Ex s.heap a C .none c)(h:∀h' b,Ex h' a C (.ref b) c->Tb h' b (rawInt L)->s.heap.get? b=none->b≠a->GZ (jn (env::outer)) [a] s.heap h'->Q () {s with heap:=h'}):wpAny M A (noteFrame (.ref a) env) Q E s:=by obtain⟨oe,vs,a0,e,hc,hd,g,h1,h2⟩:=id x;unfold noteFrame;simp only[d];refine aw (wpAny_field e hd h1 ?_);rw[if_neg (by decide)];exact vF f hl d x h
theorem vM{base:Heap}{env:Env}{outer:List Env}{L a C T:Addr}{c:Value}{Q:Unit->Shared->Prop}(u:A.frames=some (env::outer))(hl:s.heap.FunFrames base (env::outer))(l:env.frame=some L)(x:Ex s.heap a C (.ref T) c)(y:Tb s.heap T .none)(t:T≠a)(h:∀h' d,Ex h' a C (.ref d) c->Tb h' d (rawInt L)->s.heap.get? d=none->d≠a->GZ (jn (env::outer)) [a,T] s.heap h'->Q () {s with heap:=h'}):wpAny M A (noteFrame (.ref a) env) Q E s:=by
 obtain⟨oe,vs,a0,k,hc,hd,r,h1,h2⟩:=id x;obtain⟨G,w,g,dT,h3⟩:=y;unfold noteFrame;simp only[l];refine aw (wpAny_field k hd h1 ?_);rw[if_pos (show(Value.ref T !=Value.none)=true from by simp)];refine aw (wpAny_field g dT h3 ?_);rw[if_neg (show¬((Value.none==rawInt L)=true)from by simp[rawInt])];refine aw (wpAny_setField g dT (Array.getElem?_eq_some_iff.mp h3).1 ?_);have f:∀b,b≠T->(s.heap.update T (Obj.mapFields (·.setIfInBounds 3 Value.none))).get? b=s.heap.get? b:=λb hb=>jj _ _ (Ne.symm hb);have v:∀b o,s.heap.get? b=some o->(∀vs,o.data≠ .fields vs)->b≠T:=λb o hb i q=>by rw[q,g]at hb;cases hb;exact i w dT
 refine vF (s:={s with heap:=s.heap.update T (Obj.mapFields (·.setIfInBounds 3 Value.none))}) u (hl.of_keeps λb o hb i=>⟨o,(f b (v b o hb i)).trans hb,rfl⟩) l ⟨oe,vs,a0,(f a (Ne.symm t)).trans k,hc,hd,r,h1,h2⟩ λh' d B D j F p=>h h' d B D ?_ F ⟨λb o e n m=>?_,λb o e n m=>?_⟩
 ·by_cases z:d=T;·rw[z]at j;have :=Heap.get?_update_self (Obj.mapFields (·.setIfInBounds 3 Value.none)) g (Obj.isFreed_of_fields (Obj.data_mapFields dT _));rw[j]at this;cases this
  ·rw[<-f d z];exact j
 ·exact p.keep b o ((f b λz=>m (by simp[z])).trans e) n λz=>m (by simp at z;simp[z])
 ·exact p.slot b o ((f b λz=>m (by simp[z])).trans e) n λz=>m (by simp at z;simp[z])
theorem gp{a C T:Addr}{c fl:Value}{Q:Unit->Shared->Prop}(x:Ex s.heap a C (.ref T) c)(y:Tb s.heap T fl)(k:T≠a)(h:∀h',Ex h' a C (.ref T) c->Tb h' T .none->(∀b,b≠T->h'.get? b=s.heap.get? b)->Q () {s with heap:=h'}):wpAny M A (setFlight (.ref a) none) Q E s:=by obtain⟨oe,vs,a0,e,hc,hd,j,h1,h2⟩:=x;obtain⟨l,m,d,dT,h3⟩:=y;have g:=(Array.getElem?_eq_some_iff.mp h3).1;unfold setFlight;refine aw (wpAny_field e hd h1 ?_);rw[if_pos (show(Value.ref T !=Value.none)=true from by simp)];have i:∀b,b≠T->(s.heap.update T (Obj.mapFields (·.setIfInBounds 3 ((none:Option Addr).elim Value.none λf=>rawInt f)))).get? b=s.heap.get? b:=λb hb=>jj _ _ (Ne.symm hb);exact wpAny_setField d dT g (h _ ⟨oe,vs,a0,(i a (Ne.symm k)).trans e,hc,hd,j,h1,h2⟩ ⟨_,_,Heap.get?_update_self _ d (Obj.isFreed_of_fields (Obj.data_mapFields dT _)),Obj.data_mapFields dT _,by simp[g]⟩ i)
theorem zT{base:Heap}{env:Env}{outer:List Env}{L a C:Addr}{c:Value}{Q:Unit->Shared->Prop}(l:A.frames=some (env::outer))(hl:s.heap.FunFrames base (env::outer))(k:env.frame=some L)(x:Ex s.heap a C .none c)(h:∀h' d,Ex h' a C (.ref d) c->Tb h' d .none->s.heap.get? d=none->d≠a->GZ (jn (env::outer)) [a] s.heap h'->Q () {s with heap:=h'}):wpAny M A (leaving env (.ref a)) Q E s:=by unfold leaving;refine aw (BG l hl k x λh1 T1 p t f g j=>gp (s:={s with heap:=h1}) p t g λh2 r u i=>h h2 T1 r u f g ?_);refine⟨λb o e n m=>(i b λz=>by rw[z,f]at e;cases e).trans (j.keep b o e n m),λb o e n m=>?_⟩;obtain⟨sl,q⟩:=j.slot b o e n m;exact⟨sl,(i b λz=>by rw[z,f]at e;cases e).trans q⟩
theorem B7{base:Heap}{env:Env}{outer:List Env}{L a C T:Addr}{c:Value}{Q:Unit->Shared->Prop}(p:A.frames=some (env::outer))(hl:s.heap.FunFrames base (env::outer))(l:env.frame=some L)(x:Ex s.heap a C (.ref T) c)(y:Tb s.heap T .none)(k:T≠a)(h:∀h' d,Ex h' a C (.ref d) c->Tb h' d .none->s.heap.get? d=none->d≠a->GZ (jn (env::outer)) [a,T] s.heap h'->Q () {s with heap:=h'}):wpAny M A (leaving env (.ref a)) Q E s:=by unfold leaving;refine aw (vM p hl l x y k λh1 T1 r u f g j=>gp (s:={s with heap:=h1}) r u g λh2 t v i=>h h2 T1 t v f g ?_);refine⟨λb o e n m=>(i b λz=>by rw[z,f]at e;cases e).trans (j.keep b o e n m),λb o e n m=>?_⟩;obtain⟨sl,q⟩:=j.slot b o e n m;exact⟨sl,(i b λz=>by rw[z,f]at e;cases e).trans q⟩
end
theorem BR{P:Program}{w:World}{H:Hp}{h:Heap}{a:Addr}{o:HO}(x:dR P w H h a o):∃u,h.get? a=some u:=by
 cases o with
  |lst xs=>obtain⟨_,_,_,_,e⟩:=x;exact⟨_,e⟩
  |tup xs=>obtain⟨_,_,_,o,e,_⟩:=x;exact⟨_,e⟩
  |dK ip=>obtain⟨_,_,_,_,o,_,_,e,_⟩:=x;exact⟨_,e⟩
  |dT ip=>obtain⟨_,_,_,_,o,_,_,e,_⟩:=x;exact⟨_,e⟩
  |set S n=>obtain⟨o,_,_,_,e,_⟩:=x;exact⟨_,e⟩
  |ins C dx fs=>obtain⟨_,_,_,e,_⟩:=x;exact⟨_,e⟩
  |own y=>exact x
  |xd fs=>obtain⟨_,⟨_,_,_,e,_⟩,_⟩:=x;exact⟨_,e⟩
  |YG lo hi=>obtain⟨_,_,_,e⟩:=x;exact⟨_,e⟩
  |B3 ob u=>obtain⟨e,_⟩:=x;exact⟨_,e⟩
  |GY ps=>cases ps with|tab q ln cl=>rcases x with e|⟨c,e,_⟩<;>exact⟨_,e⟩|code q=>obtain⟨c,o,vs,t,b,d,_⟩:=x;cases b;exact⟨_,d⟩
  |met f y=>exact⟨_,show h.get? a=some _ from x⟩
  |ext φ=>obtain⟨_,e,_⟩:=x;exact e
theorem kJ{P:Program}{w:World}{H:Hp}{h:Heap}{a:Addr}(x:j3 P w H h)(e:h.get? a=none):H a=none:=by cases q:H a with|none=>rfl|some o=>obtain⟨u,z⟩:=BR (x a o q);rw[e]at z;cases z
theorem GZ.any{fs xs:List Addr}{h h':Heap}(p:GZ fs xs h h'){b:Addr}{o:Obj}(e:h.get? b=some o)(m:b∉xs):∃sl,h'.get? b=some {o with slots:=sl}:=by
 by_cases hb:b∈fs;·exact p.slot b o e hb m
 ·exact⟨o.slots,p.keep b o e hb m⟩
theorem Nl{P:Program}{w:World}{H:Hp}{h h':Heap}{fs xs:List Addr}(x:j3 P w H h)(p:GZ fs xs h h')(c:∀b∈fs,H b=none)(nx:∀b∈xs,H b=none):j3 P w H h':=λa o e=>by
 have st:∀b u,H b≠none->h.get? b=some u->h'.get? b=some u:=λb u n q=>p.keep b u q (λz=>n (c b z)) λz=>n (nx b z);refine(x a o e).AK (λb u hb q=>st b u ?_ q) (λ_ q=>q) λ_ _ q=>q;rcases hb with z|z;·rw[z,e];simp
 ·rw[z];simp
structure LC(X:Cx)(pins:List (Addr×Obj))(H:Hp)(b:Addr):Prop where
 un:H b=none
 new:X.b4.heap.get? b=none
 loc:b≠X.env.locals
 cel:∀x c,X.env.cells.lookup x=some c->c≠b
 pin:∀p∈X.pn++pins,p.1≠b
section
variable{X:Cx}{pins:List (Addr×Obj)}{σ:L2.St}{H H':Hp}{s s':Shared}{h':Heap}{a:Addr}
theorem kH(I:Inv X pins σ H s)(e:s.heap.get? a=none)(f:a∉X.ex)(hn:H' a=none):LC X pins H' a:=by
 refine⟨hn,?_,λz=>?_,λx c q z=>?_,λp d z=>?_⟩;·cases q:X.b4.heap.get? a with|none=>rfl|some o=>obtain⟨o',z⟩:=I.base.there a o q f;rw[e]at z;cases z
 ·obtain⟨m,⟨o,_,_,b,_⟩,_⟩:=I.loc;rw[<-z,e]at b;cases b
 ·obtain⟨v,o,b,_⟩:=I.cell x c q;rw[z,e]at b;cases b
 ·have :=(I.pin p d).1;rw[z,e]at this;cases this
theorem Inv.LH{ch:List Addr}(I:Inv X pins σ H s)(p:GZ (jn X.stack) ch s.heap h')(hc:∀b∈ch,LC X pins H b):Inv X pins σ H {s with heap:=h'}:=by
 have t:∀b o,X.b4.heap.get? b=some o->b∉ch:=λb o e z=>by rw[(hc b z).new]at e;cases e
 have B:∀b o,X.b4.heap.get? b=some o->b∉X.fs->b∉jn X.stack:=λb o e hb z=>by
  rcases List.mem_cons.mp (I.iD b z)with q|q;·have :=bZ e;rw[q]at this;exact absurd this (Nat.not_lt.mpr I.ok.above)
  ·exact hb q
 have cellK:∀x c,X.env.cells.lookup x=some c->∀v,s.heap.IsCell c v->h'.IsCell c v:=λx c e v⟨o,j,hd⟩=>by obtain⟨sl,q⟩:=p.any j λz=>(hc c z).cel x c e rfl;exact⟨_,q,hd⟩
 refine⟨I.ok,I.os,I.bare,⟨λb o e n hb f=>?_,λb o e n hb f=>?_,λb o e n f=>I.base.free b o e n f,λb o e f=>?_,I.base.uz,I.base.nO,I.base.ug⟩,?_,λx c e=>?_,I.free,I.gb,λq hq=>?_,Nl I.cI p I.xA λb hb=>(hc b hb).un,I.len⟩;·exact p.keep b o (I.base.keep b o e n hb f) (B b o e hb) (t b o e)
 ·obtain⟨sl,g⟩:=I.base.slot b o e n hb f;obtain⟨C,h⟩:=p.any g (t b o e);exact⟨C,h⟩
 ·obtain⟨o',g⟩:=I.base.there b o e f;obtain⟨sl,h⟩:=p.any g (t b o e);exact⟨_,h⟩
 ·obtain⟨m,⟨o,es,ep,j,r⟩,hl⟩:=I.loc;obtain⟨sl,A⟩:=p.any j λz=>(hc _ z).loc rfl;refine⟨m,⟨_,es,ep,A,r⟩,λi x v g h y=>?_⟩;obtain⟨u,r,l⟩:=hl i x v g h y;refine⟨u,r,?_⟩;rcases l with l|⟨k,c,e,z⟩;·exact .inl l
  ·exact .inr ⟨k,c,e,cellK x c e _ z⟩
 ·obtain⟨v,z⟩:=I.cell x c e;exact⟨v,cellK x c e v z⟩
 ·obtain⟨e,n,ne,w,d⟩:=I.pin q hq;exact⟨p.keep q.1 q.2 e (λz=>(List.mem_cons.mp (I.iD q.1 z)).elim ne w) λz=>(hc q.1 z).pin q hq rfl,n,ne,w,d⟩
end
structure NA(X:Cx)(pins:List (Addr×Obj))(H:Hp)(s:Shared)(a C T:Addr)(c fl:Value):Prop where
 ex:Ex s.heap a C (.ref T) c
 tb:Tb s.heap T fl
 ne:T≠a
 fa:LC X pins H a
 fT:LC X pins H T
noncomputable def gK(P:Program)(w:World):nU:=λhh outer H s E e s'=>∃(a C T:Addr)(c:Value)(H':Hp),e= .ref a/\s'.os=s.os/\AllBare s'.gens/\Un (jn outer) [] H H' s.heap s'.heap/\j3 P w H' s'.heap/\Ex s'.heap a C (.ref T) c/\(hh=none->c= .none)/\Tb s'.heap T .none/\T≠a/\H' a=none/\H' T=none/\s.heap.get? a=none/\s.heap.get? T=none/\E (.ref C) none H'
section
variable{X:Cx}{pins:List (Addr×Obj)}{σ:L2.St}{H:Hp}{s s':Shared}{E:XK}{e:Value}{hh:Option Value}
theorem He(I:Inv X pins σ H s)(d:X.ex=[])(h:gK X.prog X.w hh X.stack H s E e s'):∃a C T c H',e= .ref a/\Inv X pins σ H' s'/\NA X pins H' s' a C T c .none/\(hh=none->c= .none)/\E (.ref C) none H':=by obtain⟨a,C,T,c,H',rfl,os,bare,un,cI,ex,hc,tb,ne,g,f,fa,fT,q⟩:=h;refine⟨a,C,T,c,H',rfl,I.JC os un cI bare (λb z=>absurd z (by simp)),⟨ex,tb,ne,kH I fa (by rw[d];simp) g,kH I fT (by rw[d];simp) f⟩,hc,q⟩
end
section
variable{P:Program}{w:World}{K:PySem.W.Frag}{mg:Str->Option Value}{base:Heap}{N:List Str}{qual:Str}{sc:Scope}{f:Addr}{cd:Value}{A:Around}{outer:List Env}{b4:Shared}{H₀:Hp}{E:XK}
theorem J6{σ:L2.St}{H:Hp}{s:Shared}{pins:List (Addr×Obj)}{a C T:Addr}{c:Value}{h':Heap}{ch:List Addr}(I:Inv (d_ (gK P w) P w K mg base N qual sc f cd A outer b4 H₀ E) pins σ H s)(p:GZ (jn (d_ (gK P w) P w K mg base N qual sc f cd A outer b4 H₀ E).stack) ch s.heap h')(e:∀b∈ch,LC (d_ (gK P w) P w K mg base N qual sc f cd A outer b4 H₀ E) pins H b)(fa:LC (d_ (gK P w) P w K mg base N qual sc f cd A outer b4 H₀ E) pins H a)(ex:Ex h' a C (.ref T) c)(tb:Tb h' T .none)(d:s.heap.get? T=none)(ne:T≠a)(hc:A.handled=none->c= .none)(q:E (.ref C) none H):gK P w A.handled outer H₀ b4 E (.ref a) {s with heap:=h'}:=by have J:=Inv.LH I p e;exact⟨a,C,T,c,H,rfl,J.os,J.bare,J.base,J.cI,ex,hc,tb,ne,fa.un,kJ I.cI d,fa.new,(kH (H':=H) I d (by show T∉[];simp) (kJ I.cI d)).new,q⟩
theorem Ru{σ:L2.St}{H:Hp}{s:Shared}{pins:List (Addr×Obj)}{a C T:Addr}{c:Value}(I:Inv (d_ (gK P w) P w K mg base N qual sc f cd A outer b4 H₀ E) pins σ H s)(F:NA (d_ (gK P w) P w K mg base N qual sc f cd A outer b4 H₀ E) pins H s a C T c .none)(hc:A.handled=none->c= .none)(q:E (.ref C) none H):(d_ (gK P w) P w K mg base N qual sc f cd A outer b4 H₀ E).xe (.ref a) s:=by
 refine B7 I.ok.frames I.stack rfl F.ex F.tb F.ne λh' i d e g h p=>?_;exact J6 (ch:=[a,T]) I p (λb hb=>by
  rcases List.mem_cons.mp hb with z|z;·rw[z];exact F.fa
  ·rw[List.mem_singleton.mp z];exact F.fT) F.fa d e g h hc q
theorem fe{N:List Str}:Passes (gK P w) (d_ (gK P w) P w K mg base N qual sc f cd A outer b4 H₀ E) E:=λpins σ H s e s' I h=>by obtain⟨a,C,T,c,H',rfl,J,F,hc,q⟩:=He I rfl h;exact Ru J F hc q
theorem fF{σ:L2.St}{H:Hp}{s:Shared}{pins:List (Addr×Obj)}{a C:Addr}{h':Heap}(I:Inv (d_ (gK P w) P w K mg base N qual sc f cd A outer b4 H₀ E) pins σ H s)(m:MadeX s.heap h' a C A.handled)(q:E (.ref C) none H):(d_ (gK P w) P w K mg base N qual sc f cd A outer b4 H₀ E).xe (.ref a) {s with heap:=h'}:=by have J:Inv (d_ (gK P w) P w K mg base N qual sc f cd A outer b4 H₀ E) pins σ H {s with heap:=h'}:=I.kept (t':=s.toks) m.keeps;obtain⟨oe,vs,t,c,d,e,g,h,i,j,k⟩:=m.there;have fa:LC (d_ (gK P w) P w K mg base N qual sc f cd A outer b4 H₀ E) pins H a:=kH I m.new (by show a∉[];simp) (kJ I.cI m.new);refine zT J.ok.frames J.stack rfl ⟨oe,vs, .ref t,d,e,g,h,i,j⟩ λv u l n o r p=>?_;exact J6 (ch:=[a]) J p (λb hb=>by rw[List.mem_singleton.mp hb];exact fa) fa l n o r k q
theorem VY{N:List Str}:PassesOwn (model P w) (d_ (gK P w) P w K mg base N qual sc f cd A outer b4 H₀ E).A (d_ (gK P w) P w K mg base N qual sc f cd A outer b4 H₀ E).env (d_ (gK P w) P w K mg base N qual sc f cd A outer b4 H₀ E).xe:=PassesOwn.leaving
end
theorem Df.O8{P:Program}{w:World}{K:PySem.W.Frag}{mg:Str->Option Value}{x:Str}{st:Stmt}{N ps:List Str}{k:Nat}{sp:Sp}(D:Df K mg x st ps)(S:aJ N ps (aq st))(len:∀vs H Q E,sp vs H Q E->vs.length=ps.length)(a:∀(base:Heap)(f:Addr)(cH:Value)(A:Around)(outer:List Env)(s:Shared)(H:Hp)(vs:List V)(Q:VK)(E:XK),cV k (A.deeper (envOfC x (aq st) s.heap.objs.size f cH))->sp vs H Q E->∃t,jx (d_ (gK P w) P w K mg base N x (aq st) f cH A outer s H E) (bN st) t/\t {nx:=λ_ H'=>Q .bU H',rt:=Q} (start N vs) H):da P w K mg (gK P w) x (k+1) ps sp:=by obtain⟨f,fd,F,m,b⟩:=D;refine⟨f,fd,λbase=>?_,m,F.kp,b⟩;obtain⟨oc,od,kV,doc,pm,an,cH,ct,Ge,rfl,g,c⟩:=F.ex;exact J4 g c S len λA outer s H vs Q E d e=>a base f cH A outer s H vs Q E d e
noncomputable abbrev zB(X:Cx)(a:Addr)(oe:Obj)(cm:Bool):Cx:={X with A:=X.A.mark (some (.ref a)),calm:=cm,pn:=(a,oe)::X.pn,xe:=λ_ _=>False}
section
variable{X:Cx}{pins:List (Addr×Obj)}{σ:L2.St}{H:Hp}{s:Shared}{a:Addr}{oe:Obj}{cm:Bool}
theorem Wv(ok:X.Ok)(hc:cm=true->∃vs,oe.data= .fields vs/\vs[2]?=some .none):(zB X a oe cm).Ok:=⟨ok.mod,ok.kind,ok.glob,ok.blt,ok.above,ok.inj,ok.has,ok.T7,λh=>let⟨vs,b,c⟩:=hc h; .inr ⟨a,oe,vs,rfl, .inr b5,b,c⟩,ok.frames,ok.W_,ok.U5,ok.bs,ok.G5,ok.B2,ok.Bg,ok.jU,ok.N9⟩
theorem ON(I:Inv X pins σ H s){vs:Array Value}(e:s.heap.get? a=some oe)(d:oe.data= .fields vs)(F:LC X pins H a)(hc:cm=true->∃vs,oe.data= .fields vs/\vs[2]?=some .none):Inv (zB X a oe cm) pins σ H s:=by
 refine⟨Wv I.ok hc,I.os,I.bare,I.base,I.loc,I.cell,I.free,I.gb,λp b=>?_,I.cI,I.len⟩;rcases List.mem_cons.mp (show p∈(a,oe)::(X.pn++pins)from b)with z|z;·rw[z];exact⟨e,F.un,F.loc,Hb I.jU e d,λv q=>by rw[d]at q;cases q⟩
 ·exact I.pin p z
theorem lL(ok:X.Ok)(I:Inv (zB X a oe cm) pins σ H s):Inv X pins σ H s:=⟨ok,I.os,I.bare,I.base,I.loc,I.cell,I.free,I.gb,λp b=>I.pin p (cU _ b),I.cI,I.len⟩
theorem MP{m:Str->Option Value}{i:Nat}{n:Str}{v:Option Value}{h':Heap}{t':Nat}(I:Inv X pins σ H s)(D:X.N.Nodup)(hi:X.N[i]?=some n)(g:X.env.scope.names.lookup n=some .local)(hn:s.heap.Ns X.env.locals m)(hl:∀(i:Nat)(x:Str)(v:V),X.N[i]?=some x->σ[i]?=some (some v)->WG X.env.scope x->∃u,RelV v u/\Look X.env s.heap m x u)(B:h'.Ns X.env.locals (λx=>if x=n then v else m x))(G:Heap.SameBut X.env.locals s.heap h'):Inv X pins (σ.set i none) H {s with heap:=h',toks:=t'}:=by
 have h:∀b o,b≠X.env.locals->s.heap.get? b=some o->h'.get? b=some o:=λb o n e=>(G.2 b n).trans e;have t:∀b o,X.b4.heap.get? b=some o->b≠X.env.locals:=λb o e=>eH (iu (bZ e) I.ok.above);have cellK:∀x c,X.env.cells.lookup x=some c->∀v,s.heap.IsCell c v->h'.IsCell c v:=λx c e v⟨o,E,hd⟩=>⟨o,h c o (I.O_ x c e) E,hd⟩;obtain⟨O,_,_,N,_⟩:=id B;refine⟨I.ok,I.os,I.bare,⟨λb o e n hb g=>h b o (t b o e) (I.base.keep b o e n hb g),λb o e n hb g=>?_,I.base.free,λb o e g=>?_,I.base.uz,I.base.nO,I.base.ug⟩,⟨_,B,λj y M w f C=>?_⟩,λx c e=>?_,I.free,I.gb,λp F=>?_,λb u e=>?_,by simpa using I.len⟩;·obtain⟨sl,q⟩:=I.base.slot b o e n hb g;exact⟨sl,h b _ (t b o e) q⟩
 ·obtain⟨o',q⟩:=I.base.there b o e g;exact⟨o',h b _ (t b o e) q⟩
 ·have A:j≠i:=λz=>by rw[z]at f;rw[List.getElem?_set_self']at f;cases q:σ[i]?<;>rw[q]at f<;>simp at f
  rw[List.getElem?_set_ne (Ne.symm A)]at f;obtain⟨u,r,l⟩:=hl j y M w f C;have J:y≠n:=λz=>A (tQ D (z▸w) hi);refine⟨u,r,?_⟩;rcases l with⟨k,l⟩|⟨k,c,e,z⟩;·exact .inl ⟨k,by show(if y=n then v else m y)=some u;rw[if_neg J];exact l⟩
  ·exact .inr ⟨k,c,e,cellK y c e _ z⟩
 ·obtain⟨v,z⟩:=I.cell x c e;exact⟨v,cellK x c e v z⟩
 ·obtain⟨e,n,ne,L,d⟩:=I.pin p F;exact⟨h p.1 p.2 ne e,n,ne,L,d⟩
 ·have K:∀c,H c≠none->c≠X.env.locals:=λc n z=>n (by rw[z];exact I.free);refine(I.cI b u e).AK (λc o hc q=>h c o (K c ?_) q) (λ_ q=>q) λ_ _ q=>q;rcases hc with z|z;·rw[z,e];simp
  ·rw[z];simp
theorem iZ{M:Model}{A:Around}{E:Value->Shared->Prop}{Q:Unit->Shared->Prop}{i:Nat}{n:Str}{f:Pos}(I:Inv X pins σ H s)(c:X.N.Nodup)(hi:X.N[i]?=some n)(b:X.env.scope.names.lookup n=some .local)(h:∀s',Inv X pins (σ.set i none) H s'->Q () s'):wpAny M A (do bindName X.env n .none;unbindBehindTheSuite X.env n f) Q E s:=by obtain⟨m,hn,hl⟩:=id I.loc;refine wpAny_nameGoes_keeps b hn (by rw[I.ok.kind];rfl) λh' v d e=>h _ (MP I c hi b hn hl d e)
end
theorem z7{K:PySem.W.Frag}{prog:Program}{w:World}{A:Around}{E:Value->Shared->Prop}{Q:Bool->Shared->Prop}{s:Shared}{a C c:Addr}{oe:Obj}{b:Bool}(X:K.In s.heap)(k:s.heap.get? a=some oe)(hc:oe.cls= .ref C)(i:lO K c)(e:PySem.W.subIn K (.ref C) (.ref c)=some b)(q:Q b s):wpAny (model prog w) A (excMatches (.ref a) (.ref c)) Q E s:=by
 obtain⟨n,newId,x,FB,l⟩:=i;obtain⟨bm,N,nm,F,bs,r,G,sub,m,o,dd,y,k1,k2,z,B,D,h,p,u,T⟩:=so X l;have j:(Value.ref c::bm).contains (.type "BaseException")=true:=by rw[List.contains_cons,T.hasType FB.hasBase,Bool.or_true]
 have f:=tc_notTuple;have L:=PySem.W.looks_subIn (M:=model prog w) X e;obtain⟨v,g,d,t,os⟩:=s;unfold excMatches;repeat(first|with_reducible refine aw (L.at ?_)|(with_reducible refine wpAny_loadPart_at k ?_;rw[hc])|with_reducible refine wpAny_loadPart_at h ?_|(with_reducible refine wpAny_isSubtype_exc h ?_;rw[j])|wp_step)
 cases b<;>(wp_walk;exact q)
noncomputable abbrev TH:=Addr->Addr->TS
def PH(X:Cx)(b:List ExceptHandler)(t:TH):Prop:=∀(pins:List (Addr×Obj))(s:Shared)(σ:L2.St)(H:Hp)(D:Ends)(a C T:Addr)(c:Value),Inv X pins σ H s->NA X pins H s a C T c .none->(X.A.handled=none->c= .none)->t C a D σ H->wpAny (model X.prog X.w) X.A (handleBy (.ref a) X.env b) (SP X pins D) X.xe s
noncomputable def aaP:TH:=λ_ _ _ _ _=>False
theorem Rr{X:Cx}:PH X [] aaP:=λ_ _ _ _ _ _ _ _ _ _ _ _ h=>h.elim
def Cm(X:Cx)(cm:Bool):Prop:=cm=true->X.A.handled=none
section
variable{X:Cx}{cm:Bool}
theorem Sz{pins:List (Addr×Obj)}{s:Shared}{H:Hp}{a C T:Addr}{c fl:Value}(F:NA X pins H s a C T c fl)(hc:X.A.handled=none->c= .none)(hm:Cm X cm):∃oe vs,s.heap.get? a=some oe/\oe.cls= .ref C/\oe.data= .fields vs/\(cm=true->∃vs,oe.data= .fields vs/\vs[2]?=some .none):=by obtain⟨oe,vs,a0,d,e,b,g,h,f⟩:=F.ex;exact⟨oe,vs,d,e,b,λz=>⟨vs,b,by rw[f,hc (hm z)]⟩⟩
theorem z3{x:Str}{d:Addr}{M N:Pos}{pins:List (Addr×Obj)}{s:Shared}{σ:L2.St}{H:Hp}{a C T:Addr}{c:Value}{b:Bool}{R:Result->Shared->Prop}(E:lO X.K d)(hm:X.mg x=some (.ref d))(K:Gl X x)(G:(x==("__debug__":Str))=false)(I:Inv X pins σ H s)(F:NA X pins H s a C T c .none)(e:PySem.W.subIn X.K (.ref C) (.ref d)=some b)(h:∀s1,Inv X pins σ H s1->NA X pins H s1 a C T c .none->R (.ok (if b then .brk else .next)) s1):codeAny (model X.prog X.w) (X.A.mark (some (.ref a))) (.handlers (.ref a) [.ExceptHandler (some (.Name x M)) none [] N] X.env) R s:=by
 obtain⟨oe,vs,a0,t,l,m,u,y,A⟩:=F.ex;obtain⟨g,O,n,i,B⟩:=F.tb;have j:Inv X ((T,g)::pins) σ H s:=I.oR λp f=>by
  rcases List.mem_cons.mp f with z|z;·rw[z];exact⟨n,F.fT.un,F.fT.loc,Hb I.jU n i,λv q=>by rw[i]at q;cases q⟩
  ·exact I.pin p (gP _ z)
 have D:LC X ((T,g)::pins) H a:=⟨F.fa.un,F.fa.new,F.fa.loc,F.fa.cel,λp f=>by
  rcases List.mem_append.mp f with z|z;·exact F.fa.pin p (kP _ z)
  ·rcases List.mem_cons.mp z with z|z;·rw[z];exact F.ne
   ·exact F.fa.pin p (gP _ z)⟩;have o:Inv (zB X a oe false) ((T,g)::pins) σ H s:=ON j t m D (λz=>nomatch z);refine codeAny_handlers_test (fk (bV (X:=zB X a oe false) (a:=d) hm K G _ _ _ _ (λv H'=>v= .ref d/\H'=H) o ⟨rfl,rfl⟩) (λv s1 L=>?_) λ_ _ z=>z.elim);obtain⟨w,H',J,r,rfl,rfl⟩:=L;cases(show v=Value.ref d from r);have k1:=(J.pin (a,oe) (by simp)).1;have k2:=(J.pin (T,g) (by simp)).1;have k:Inv X pins σ H' s1:=(lL I.ok J).oR λp f=>j.ok|>λ_=>(lL I.ok J).pin p (gP _ (cU _ f));exact z7 k.ic k1 l E e (h s1 k ⟨⟨oe,vs,a0,k1,l,m,u,y,A⟩,⟨g,O,k2,i,B⟩,F.ne,F.fa,F.fT⟩)
theorem Kt{pins:List (Addr×Obj)}{s:Shared}{σ:L2.St}{H:Hp}{a C T:Addr}{c fl:Value}{A:Around}{E:Value->Shared->Prop}{Q:Unit->Shared->Prop}(I:Inv X pins σ H s)(F:NA X pins H s a C T c fl)(hc:X.A.handled=none->c= .none)(hm:Cm X cm)(h:∀s1 oe,Inv (zB X a oe cm) pins σ H s1->oe.cls= .ref C->Q () s1):wpAny (model X.prog X.w) A (setFlight (.ref a) none) Q E s:=by
 refine gp F.ex F.tb F.ne λh' l n d=>?_;have p:GZ (jn X.stack) [T] s.heap h':=⟨λb o e _ m=>(d b (by simpa using m)).trans e,λb o e _ m=>⟨o.slots,(d b (by simpa using m)).trans e⟩⟩;have J:=Inv.LH I p λb hb=>by rw[List.mem_singleton.mp hb];exact F.fT
 have f:NA X pins H {s with heap:=h'} a C T c .none:=⟨l,n,F.ne,F.fa,F.fT⟩;obtain⟨oe,vs,g,i,j,k⟩:=Sz f hc hm;exact h _ oe (ON J g j F.fa k) i
noncomputable def D1(i:Nat)(D:Ends):Ends:={nx:=λσ H=>D.nx (σ.set i none) H,rt:=D.rt,bk:=λσ H=>D.bk (σ.set i none) H,ct:=λσ H=>D.ct (σ.set i none) H}
noncomputable def hAs(K:PySem.W.Frag)(i:Nat)(c:Addr)(e d:TH):TH:=λC a D σ H=>∃b,PySem.W.subIn K (.ref C) (.ref c)=some b/\if b=true then e C a (D1 i D) (σ.set i (some (.ref a))) H else d C a D σ H
theorem XR{x y:Str}{i:Nat}{k:Addr}{Q R:Pos}{t:Stmt}{w:List Stmt}{rest:List ExceptHandler}{n m:TH}(cm:Bool)(j:X.N.Nodup)(hi:X.N[i]?=some y)(g:X.env.scope.names.lookup y=some .local)(G:lO X.K k)(hm:X.mg x=some (.ref k))(N:Gl X x)(K:Cm X cm)(P:∀(a C:Addr)(oe:Obj),oe.cls= .ref C->jx (zB X a oe cm) (t::w) (n C a))(O:PH X rest m)(M:(x==("__debug__":Str))=false:=by decide):PH X (.ExceptHandler (some (.Name x Q)) (some y) (t::w) R::rest) (hAs X.K i k n m):=by
 intro pins s σ H D a C T c I F hc h;obtain⟨b,e,h⟩:=h;refine wpAny_handleBy_cons (z3 G hm N M I F e λs1 J p=>?_) (by intro q;cases q);cases b with
  |false=>
   have h:m C a D σ H:=by simpa using h
   exact O pins s1 σ H D a C T c J p hc h
  |true=>
   have h:n C a (D1 i D) (σ.set i (some (.ref a))) H:=by simpa using h
   refine codeAny_handlers_suite_as (Kt J p hc K λs2 oe A E=>?_);refine iC (X:=zB X a oe cm) (v:= .ref a) A j hi (.inl g) rfl (λS B=>?_) (.inr g);refine fk (P a C oe E pins S _ H (D1 i D) B h) (λf U q=>?_) λ_ _ z=>z.elim;cases f with|next=>obtain⟨o,H',d,q⟩:=q;exact iZ (lL I.ok d) j hi g λl L=>⟨_,H',L,q⟩|brk=>obtain⟨o,H',d,q⟩:=q;exact iZ (lL I.ok d) j hi g λl L=>⟨_,H',L,q⟩|cont=>obtain⟨o,H',d,q⟩:=q;exact iZ (lL I.ok d) j hi g λl L=>⟨_,H',L,q⟩|ret u=>obtain⟨v,o,H',d,r,q⟩:=q;exact iZ (lL I.ok d) j hi g λl L=>⟨v,_,H',L,r,q⟩
end
noncomputable abbrev TB:=Ends->(Addr->L2.St->Hp->Prop)->L2.St->Hp->Prop
def BX(X:Cx)(pins:List (Addr×Obj))(G:Addr->L2.St->Hp->Prop)(e:Value)(s':Shared):Prop:=∃(a C T:Addr)(c:Value)(b:L2.St)(H':Hp),e= .ref a/\Inv X pins b H' s'/\NA X pins H' s' a C T c .none/\(X.A.handled=none->c= .none)/\G C b H'
def PB(X:Cx)(body:List Stmt)(t:TB):Prop:=∀(pins:List (Addr×Obj))(s:Shared)(σ:L2.St)(H:Hp)(D:Ends)(G:Addr->L2.St->Hp->Prop),Inv X pins σ H s->t D G σ H->wpAny (model X.prog X.w) X.A (execs body X.env) (SP X pins D) (BX X pins G) s
noncomputable def ZT(tb:TB)(b:TH):TS:=λD σ H=>tb D (λC c H'=>∀a,H' a=none->b C a D c H') σ H
theorem Qu{X:Cx}{body:List Stmt}{h₀:ExceptHandler}{j:List ExceptHandler}{tb:TB}{p:TH}{A:Pos}(w:X.ex=[])(d:X.stack=X.env::X.outer)(v:X.env.frame=some X.env.locals)(hb:PB X body tb)(hh:PH X (h₀::j) p):PS X (.Try body (h₀::j) [] [] A) (ZT tb p):=by
 intro pins s σ H D I h;refine wpAny_Try_except (fk (hb pins s σ H D _ I h) (λf s1 q=>?_) λe s1 q=>?_);·cases f with|next=>exact(by first|exact wpAny_execs_nil q|(rw[execs];exact bf q)|exact bf q)|brk=>exact q|cont=>exact q|ret u=>exact q
 ·obtain⟨a,C,T,c,g,H',rfl,J,F,hc,q⟩:=q;refine vM (by rw[J.ok.frames,d]) (d▸J.stack) v F.ex F.tb F.ne λh1 T1 B G l k x=>gp (s:={s1 with heap:=h1}) B G k λh2 E K n=>?_;have r:Inv X pins g H' {s1 with heap:=h1}:=Inv.LH J (d▸x) λb hb=>by
   rcases List.mem_cons.mp hb with z|z;·rw[z];exact F.fa
   ·rw[List.mem_singleton.mp z];exact F.fT
  have i:LC X pins H' T1:=kH J l (by rw[w];simp) (kJ J.cI l);have y:GZ (jn X.stack) [T1] h1 h2:=⟨λb o e _ m=>(n b (by simpa using m)).trans e,λb o e _ m=>⟨o.slots,(n b (by simpa using m)).trans e⟩⟩;have t:Inv X pins g H' {s1 with heap:=h2}:=Inv.LH (s:={s1 with heap:=h1}) r y λb hb=>by rw[List.mem_singleton.mp hb];exact i
  exact hh pins _ g H' D a C T1 c t ⟨E,K,k,F.fa,i⟩ hc (q a F.fa.un)
theorem Rp{X:Cx}{x:Str}{k:Nat}{ps:List Str}{sp:Sp}{e:Expr}{es:List Expr}{t:TA}{p g:Pos}{pins:List (Addr×Obj)}{s:Shared}{σ:L2.St}{H:Hp}{Q:VK}{G:Addr->L2.St->Hp->Prop}(F:da X.prog X.w X.K X.mg (gK X.prog X.w) x k ps sp)(A:cV k X.A)(w:Gl X x)(B:X.ex=[])(ha:PA X.DT (e::es) t)(u:(x==("__debug__":Str))=false)(v:starEach (e::es) X.env=(false,eval e X.env)::starEach es X.env)(y:(backTo g (starEach es X.env)).any (·.1)=false)(hc:X.calm=true)(I:Inv X pins σ H s)(h:t σ H λvs i=>sp vs i Q λj _ n=>∃C,j= .ref C/\G C σ n):wpAny (model X.prog X.w) X.A (eval (.Call (.Name x p) (e::es) [] g) X.env) (EP X pins σ Q) (BX X pins G) s:=by obtain⟨f,fd,F,m,kp,b⟩:=F;refine wpAny_Call_Name_kw (gy I w m ?_ u);refine PySem.W.callWith_K (h₀:=X.base) I.ok.mod.FE kp (fk (ha g pins s σ H _ (I.lJ _) h) (λus s1⟨vs,i,d,r,q⟩=>⟨d.ei.ic,?_⟩) λ_ _ z=>z.elim) v y;refine ka F A b d.ei hc (λe s' hc=>?_) r q;obtain⟨a,C,T,c,H',rfl,J,l,hn,D,o,q⟩:=He d.ei B hc;cases o;exact⟨a,C,T,c,σ,H',rfl,J,l,hn,q⟩
noncomputable def Wd(sp:Sp)(t:TA):TB:=λD G σ H=>t σ H λvs c=>sp vs c (λ_ a=>D.nx σ a) λb _ a=>∃C,b= .ref C/\G C σ a
theorem Fs{X:Cx}{x:Str}{k:Nat}{ps:List Str}{sp:Sp}{e:Expr}{es:List Expr}{t:TA}{p a pos':Pos}(F:da X.prog X.w X.K X.mg (gK X.prog X.w) x k ps sp)(j:cV k X.A)(g:Gl X x)(m:X.ex=[])(ha:PA X.DT (e::es) t)(l:swapsWith (.Call (.Name x p) (e::es) [] a) none pos'.line X.env=pure false:=by rfl)(d:(x==("__debug__":Str))=false:=by decide)(f:starEach (e::es) X.env=(false,eval e X.env)::starEach es X.env:=by rfl)(i:(backTo a (starEach es X.env)).any (·.1)=false:=by rfl)(hc:X.calm=true:=by rfl):PB X [.Expr (.Call (.Name x p) (e::es) [] a) pos'] (Wd sp t):=by intro pins s σ H D G I h;refine wpAny_execs_cons (wpAny_Expr_any (bR (Rp F j g m ha d f i hc I h) λv s1 o=>?_) I.quiet l);obtain⟨y,b,c,q,n⟩:=o;exact wpAny_execs_nil ⟨σ,b,c,n⟩
structure sS(K:PySem.W.Frag)(C:Addr):Prop where
 ga:PySem.W.findIn K (.ref C) "__getattribute__"=some (some (.builtin "BaseException.__getattribute__"))
 cl:PySem.W.findIn K (.ref C) "__class__"=some (some (.builtin "object.__class__"))
 gt:PySem.W.findIn K (.ref C) "__getattr__"=some none
 ob:PySem.W.mroIn K C (.type "object")=some true
 be:PySem.W.mroIn K C (.type "BaseException")=some true
 is:(PySem.W.clsIn K C).isSome=true
section
variable{prog:Program}{w:World}{A:Around}{E:Value->Shared->Prop}{h:Heap}{g:Array GenState}{d:Drawn}{t:Nat}{os:OsState}{a C:Addr}{o:Obj}{K:PySem.W.Frag}
theorem vj{R:Result->Shared->Prop}(X:K.In h)(G:sS K C)(b:h.get? a=some o)(hc:o.cls= .ref C)(hq:R (.ok (.ret (.ref C))) ⟨h,g,d,t,os⟩):codeAny (model prog w) A (.call (.builtin "getset_descriptor.__get__") ⟨[.builtin "object.__class__", .ref a, .ref C],[]⟩) R ⟨h,g,d,t,os⟩:=by
 have c:(⟨h,g,d,t,os⟩:Shared).TypeIs (.builtin "object.__class__") "getset_descriptor":=F.typeOf_object_class;have L:PySem.W.Looks (model prog w) h (isSubtype (.ref C) (.type (".".intercalate ("object.__class__".cutAt '.').dropLast))) true:=by rw[F.owner_object_class];exact PySem.W.looks_mroIn X G.ob
 refine codeAny_call_builtin F.slot_gs_get.plain F.entry_gs_get (F.slot_gs_get.check _ _ _ _ _ _ _ _ c (F.args_gs_get _ _ _) ?_);repeat(any_goals(first|assumption|(with_reducible refine wpAny_loadPart_at b ?_;rw[hc])|with_reducible refine aw (L.at ?_)|with_reducible refine L.at ?_|wp_step))
 refine⟨Code.quiet_builtin _ (by decide+kernel),codeAny_builtin F.entry_object_class ?_⟩;repeat(any_goals(first|assumption|(with_reducible refine wpAny_loadPart_at b ?_;rw[hc])|wp_step))
theorem nJ{tk:Tok}{Q:Fin->Shared->Prop}(X:K.In h)(G:sS K C)(b:h.get? a=some o)(hc:o.cls= .ref C)(hq:Q (.done (.ret (.ref C))) ⟨h,g,d,t,os⟩):wpAny (model prog w) A (Builtin.«object.__getattribute__» ⟨[.ref a, .str "__class__" tk],[]⟩) Q E ⟨h,g,d,t,os⟩:=by
 have i:(⟨h,g,d,t,os⟩:Shared).TypeIs (.builtin "object.__class__") "getset_descriptor":=F.typeOf_object_class;have L:=PySem.W.looks_findIn (M:=model prog w) X G.cl;have c:=F.typeOf_object_class;have e:=F.slot_gs_get.lookup;have f:=F.slot_gs_set.lookup;repeat(any_goals(first|assumption|(with_reducible refine wpAny_loadPart_at b ?_;rw[hc])|with_reducible refine aw (L.at ?_)|with_reducible refine L.at ?_|wp_step))
 refine vj X G b hc ?_;repeat(any_goals(first|assumption|wp_step))
theorem zg{M:Model}{b:Value}{Q:Unit->Shared->Prop}(X:K.In h)(G:sS K C)(f:h.get? a=some o)(hc:o.cls= .ref C)(hq:Q () ⟨h,g,d,t,os⟩):wpAny M A (checkBuiltinCall "BaseException.__getattribute__" ⟨[.ref a,b],[]⟩) Q E ⟨h,g,d,t,os⟩:=by
 have c:builtinKind "BaseException.__getattribute__"=some .slot:=by decide+kernel
 have e:splitId "BaseException.__getattribute__"=some ("BaseException","__getattribute__"):=by decide+kernel
 have L:=PySem.W.looks_mroIn (M:=M) X G.be;have ha:=F.args_bexc_ga (.ref a) b;simp only[checkBuiltinCall,c,e];refine aw ?_
 ·unfold isInstance;repeat(first|(with_reducible refine wpAny_loadPart_at f ?_;rw[hc])|with_reducible refine aw (L.at ?_)|with_reducible refine L.at ?_|wp_step)
  exact hq
theorem uv{tk:Tok}{R:Result->Shared->Prop}(X:K.In h)(G:sS K C)(b:h.get? a=some o)(hc:o.cls= .ref C)(hq:R (.ok (.ret (.ref C))) ⟨h,g,d,t,os⟩):codeAny (model prog w) A (.call (.builtin "BaseException.__getattribute__") ⟨[.ref a, .str "__class__" tk],[]⟩) R ⟨h,g,d,t,os⟩:=codeAny_call_builtin F.excAttr_ValueError.ga.plain F.entry_bexc_ga (zg X G b hc (nJ X G b hc hq))
theorem yb{tk:Tok}{Q:Value->Shared->Prop}(X:K.In h)(G:sS K C)(c:h.get? a=some o)(hc:o.cls= .ref C)(hq:Q (.ref C) ⟨h,g,d,t,os⟩):wpAny (model prog w) A (getAttrBy (.ref a) (.str "__class__" tk) false) Q E ⟨h,g,d,t,os⟩:=by
 have f:=F.excAttr_ValueError.ga.bind (.ref a);have e:(Value.builtin "BaseException.__getattribute__"==Value.builtin "object.__getattribute__")=false:=by decide+kernel
 have i:(onTheHeap (Value.ref C)&&Value.builtin "BaseException.__getattribute__"==Value.builtin "object.__getattribute__")=false:=by rw[e];rfl
 have b:=PySem.W.looks_findIn (M:=model prog w) X G.ga;have L2:=PySem.W.looks_findIn (M:=model prog w) X G.gt;repeat(any_goals(first|assumption|(with_reducible refine wpAny_loadPart_at c ?_;rw[hc])|with_reducible refine aw (b.at ?_)|with_reducible refine b.at ?_|with_reducible refine aw (L2.at ?_)|with_reducible refine L2.at ?_|wp_step))
 refine uv X G c hc ?_;repeat(any_goals(first|assumption|wp_step))
theorem si{Q:Option Value->Shared->Prop}(X:K.In h)(G:sS K C)(b:h.get? a=some o)(hc:o.cls= .ref C)(hq:Q (some (.ref C)) ⟨h,g,d,t+1,os⟩):wpAny (model prog w) A (getAttr? (.ref a) "__class__") Q E ⟨h,g,d,t,os⟩:=by unfold getAttr? getAttrBy?;repeat(any_goals(first|assumption|with_reducible apply yb X G b hc|wp_step))
theorem nE{K:PySem.W.Frag}{a C:Addr}(G:sS K C):PySem.W.KitX K (.ref a) (.ref C) (λh=>∃o,h.get? a=some o/\o.cls= .ref C)where
 ty:=λM h X⟨o,e,c⟩=>by have :=(PySem.W.Looks.ld (M:=M) (part:=none) e);intro A Q E s k q;exact(by first|exact aw (wpAny_loadPart (k _ _ e) (bf (by rw[c];exact q)))|(unfold typeOf loadHead;exact aw (wpAny_loadPart (k _ _ e) (bf (by rw[c];exact q))))|(unfold typeOf;exact aw (wpAny_loadPart (k _ _ e) (bf (by rw[c];exact q)))))
 it:=λM h X _=>by
  have b:=G.is;unfold PySem.W.clsIn at b;split at b;·rename_i i d' j l f;intro m r p s' k q;unfold isType loadHead;exact aw (wpAny_loadPart (k _ _ (X _ _ f)) (bf q))
  ·cases b
 ne:=λh tp dd its n sl X e=>by
  have b:=G.is;unfold PySem.W.clsIn at b;split at b
  ·rename_i i d' j l f;by_cases z:C=tp;·have :=X _ _ f;rw[z,e]at this;cases this
   ·simpa using z
  ·cases b
 ca:=λ{prog w A E Q s}X⟨o,e,c⟩q=>by obtain⟨h,g,d,t,os⟩:=s;exact si X G e c q
end
theorem Hh{X:Cx}{a C:Addr}{oe:Obj}(d:(a,oe)∈X.pn)(hc:oe.cls= .ref C):fA X (.builtin "isinstance") (λxs H Q=>∃y c b,xs=[.ref a,y]/\sS X.K C/\(∀u,RelV y u->u=c)/\PySem.W.kitOne X.K (.ref C) c=some b/\Q (.bl b) H):=by intro pins s σ H xs us Q I r h;obtain⟨y,c,b,rfl,G,inj,e,q⟩:=h;obtain⟨u,v,rfl,f,g⟩:=r.two;cases f;obtain rfl:=inj v g;exact PySem.W.kia_one (nE G) I.ic ⟨oe,(I.pin (a,oe) (kP _ d)).1,hc⟩ e (λz=>nomatch z) λtk=>⟨.bl b,H,I.tok tk,rfl,q⟩
section
variable{X:Cx}{pins:List (Addr×Obj)}{σ:L2.St}{H:Hp}{s:Shared}{a:Addr}{D:List (Str×V)}{k:Str}{tk:Tok}{A:Around}{E:Value->Shared->Prop}
end
theorem vk:bootBuiltins "ValueError"=some (.type "ValueError"):=by decide+kernel
structure abd(a e it:Addr)(i:Nat)(h:Heap):Prop where
 e:∃old,IsEnum h e it i old
 it:h.IsListIter it a i
theorem j6{CX:nU}{P:Program}{w:World}{K:PySem.W.Frag}{mg:Str->Option Value}{base:Heap}{N:List Str}{qual:Str}{scope:Scope}{f:Addr}{cd:Value}{A:Around}{outer:List Env}{s:Shared}{H:Hp}{E:XK}:(d_ CX P w K mg base N qual scope f cd A outer s H E).DT.K=K:=rfl
end L3
end
section
namespace L3
open PySem L2
theorem vn{a b:TS}{D:Ends}{σ:L2.St}{H:Hp}(h:let c:Ends:=D;let d:TS:=b;aQ a d c σ H):(aQ a (b)) D σ H:=h
theorem Ro{a b c:TS}{D:Ends}{σ:L2.St}{H:Hp}(h:let d:Ends:=D;let f:TS:=c;let e:TS:=aQ b f;aQ a e d σ H):(aQ a (aQ b (c))) D σ H:=h
theorem IG{a b c t4:TS}{D:Ends}{σ:L2.St}{H:Hp}(h:let d:Ends:=D;let g:TS:=t4;let f:TS:=aQ c g;let e:TS:=aQ b f;aQ a e d σ H):(aQ a (aQ b (aQ c (t4)))) D σ H:=h
theorem RE{a b c t4 d e:TS}{D:Ends}{σ:L2.St}{H:Hp}(h:let f:Ends:=D;let l:TS:=e;let k:TS:=aQ d l;let j:TS:=aQ t4 k;let i:TS:=aQ c j;let g:TS:=aQ b i;aQ a g f σ H):(aQ a (aQ b (aQ c (aQ t4 (aQ d (e)))))) D σ H:=h
theorem WC{a b c t4 d e f:TS}{D:Ends}{σ:L2.St}{H:Hp}(h:let g:Ends:=D;let n:TS:=f;let m:TS:=aQ e n;let l:TS:=aQ d m;let k:TS:=aQ t4 l;let j:TS:=aQ c k;let i:TS:=aQ b j;aQ a i g σ H):(aQ a (aQ b (aQ c (aQ t4 (aQ d (aQ e (f))))))) D σ H:=h
theorem Z6{a b c t4 d e f g:TS}{D:Ends}{σ:L2.St}{H:Hp}(h:let i:Ends:=D;let p:TS:=g;let o:TS:=aQ f p;let n:TS:=aQ e o;let m:TS:=aQ d n;let l:TS:=aQ t4 m;let k:TS:=aQ c l;let j:TS:=aQ b k;aQ a j i σ H):(aQ a (aQ b (aQ c (aQ t4 (aQ d (aQ e (aQ f (g)))))))) D σ H:=h
theorem aan{a b c t4 d e f g i:TS}{D:Ends}{σ:L2.St}{H:Hp}(h:let j:Ends:=D;let r:TS:=i;let q:TS:=aQ g r;let p:TS:=aQ f q;let o:TS:=aQ e p;let n:TS:=aQ d o;let m:TS:=aQ t4 n;let l:TS:=aQ c m;let k:TS:=aQ b l;aQ a k j σ H):(aQ a (aQ b (aQ c (aQ t4 (aQ d (aQ e (aQ f (aQ g (i))))))))) D σ H:=h
theorem Yh{a e f t4 g i j k l b c d:TS}{D:Ends}{σ:L2.St}{H:Hp}(h:let m:Ends:=D;let p:TS:=d;let o:TS:=aQ c p;let n:TS:=aQ b o;let x:TS:=aQ l n;let w:TS:=aQ k x;let v:TS:=aQ j w;let u:TS:=aQ i v;let t:TS:=aQ g u;let s:TS:=aQ t4 t;let r:TS:=aQ f s;let q:TS:=aQ e r;aQ a q m σ H):(aQ a (aQ e (aQ f (aQ t4 (aQ g (aQ i (aQ j (aQ k (aQ l (aQ b (aQ c (d)))))))))))) D σ H:=h
end L3
end
section
namespace KM
end KM
end
section
namespace L3
open PySem L2
theorem by0{P:List Value->Prop}(h:P []):∀us:List Value,us.length=0->P us:=λus e=>by rw[List.length_eq_zero_iff.mp e];exact h
theorem Vx{P:List Value->Prop}{n:Nat}(h:∀a us,us.length=n->P (a::us)):∀us:List Value,us.length=n+1->P us|[],e=>nomatch e|a::us,e=>h a us (Nat.succ.inj e)
theorem gk{P:List Value->Prop}(h:∀a,P [a]):∀us:List Value,us.length=1->P us:=Vx λa=>by0 (h a)
theorem Ke{P:List Value->Prop}(h:∀a b,P [a,b]):∀us:List Value,us.length=2->P us:=Vx λa=>gk (h a)
theorem V6{P:List Value->Prop}(h:∀a b c,P [a,b,c]):∀us:List Value,us.length=3->P us:=Vx λa=>Ke (h a)
theorem by4{P:List Value->Prop}(h:∀a b c d,P [a,b,c,d]):∀us:List Value,us.length=4->P us:=Vx λa=>V6 (h a)
theorem by5{P:List Value->Prop}(h:∀a b c d e,P [a,b,c,d,e]):∀us:List Value,us.length=5->P us:=Vx λa=>by4 (h a)
def dW(K:PySem.W.Frag)(x:Str)(st:Stmt):Prop:=∃(f:Addr)(od an:Option Addr)(sl:Array (Option Value))(oc kV dc pm cd ct:Value),PySem.W.nsIn K mainGlobals x=some (some (.ref f))/\K.lookup f=some ⟨oc,od, .func (PySem.W.fnOf x x (de st) (bN st) (aq st) .none kV dc pm an cd ct),sl⟩/\PySem.W.codeIn K cd x=true/\PySem.W.keepIn K (.ref f)=true
theorem dfi{K:PySem.W.Frag}{x:Str}{st:Stmt}{f:Addr}{od an:Option Addr}{sl:Array (Option Value)}{oc kV dc pm cd ct:Value}(a:PySem.W.nsIn K mainGlobals x=some (some (.ref f)))(l:K.lookup f=some ⟨oc,od, .func (PySem.W.fnOf x x (de st) (bN st) (aq st) .none kV dc pm an cd ct),sl⟩)(c:PySem.W.codeIn K cd x=true)(k:PySem.W.keepIn K (.ref f)=true):dW K x st:=⟨f,od,an,sl,oc,kV,dc,pm,cd,ct,a,l,c,k⟩
theorem dW.df{K:PySem.W.Frag}{h:Heap}{mg:Str->Option Value}{x:Str}{st:Stmt}{ps:List Str}(D:dW K x st)(X:K.In h)(G:h.Ns mainGlobals mg)(b:∀(kV doc pm:Value)(an:Option Addr)(cH ct:Value)(us:List Value),us.length=ps.length->bindArgs (PySem.W.fnOf x x (de st) (bN st) (aq st) .none kV doc pm an cH ct) ⟨us,[]⟩=pure (ps.zip us)):Df K mg x st ps:=by obtain⟨f,od,an,sl,oc,kV,dc,pm,cd,ct,a,l,c,k⟩:=D;exact⟨f,_,ft l c k,PySem.W.mg_of X G a,(ft l c k).binds b⟩
end L3
end
theorem L2.cV.m{j k:Nat}{A:PySem.Around}(r:L2.cV k A)(h:j<=k:=by first|decide|lia):L2.cV j A:=r.mono h
section
namespace K54
open PySem L2 L3 KM
noncomputable def top(i:Nat):Stmt:=PySem.Challenge.pw_keeper_k54_texts_refused.main.body.getD i (.Pass ⟨0,0,0,0⟩)
noncomputable abbrev gN:Stmt:=top 26
noncomputable abbrev gI:Stmt:=top 27
noncomputable abbrev jc:Stmt:=top 28
noncomputable abbrev cO:Stmt:=top 29
noncomputable abbrev iV:Stmt:=top 30
noncomputable abbrev fP:Stmt:=top 32
noncomputable abbrev ja:Stmt:=top 37
noncomputable abbrev eO:Stmt:=top 38
noncomputable abbrev e_:Stmt:=top 39
noncomputable abbrev g6:Stmt:=top 40
noncomputable abbrev je:Stmt:=top 41
noncomputable abbrev fH:Stmt:=top 42
noncomputable abbrev gz:Stmt:=top 43
noncomputable abbrev gm:Stmt:=top 44
noncomputable abbrev dO:Stmt:=top 46
noncomputable abbrev eE:Stmt:=top 47
noncomputable abbrev eP:Stmt:=top 48
noncomputable abbrev gq:Stmt:=top 49
noncomputable abbrev gx:Stmt:=top 50
noncomputable abbrev gh:Stmt:=top 51
noncomputable abbrev g7:Stmt:=top 52
noncomputable abbrev e9:Stmt:=top 53
noncomputable abbrev fD:Stmt:=top 54
noncomputable abbrev eQ:Stmt:=top 55
noncomputable abbrev eV:Stmt:=top 56
noncomputable abbrev jb:Stmt:=top 57
noncomputable abbrev eh:Stmt:=top 58
noncomputable abbrev zu:Stmt:=top 59
noncomputable abbrev cS:Stmt:=inClass (top 36) 0
noncomputable abbrev bx:Stmt:=inClass (top 36) 1
noncomputable abbrev bP:Stmt:=inClass (top 36) 2
noncomputable abbrev cT:Stmt:=inClass (top 36) 3
noncomputable abbrev b7:Stmt:=inClass (top 36) 4
structure y_ where
 none_:Unit:=()
 hI:Addr
 kE:Addr
 gg:Addr
 iR:Addr
 gi:Addr
 DH:Addr
 Kl:Addr
 Dry:Addr
 tM:Addr
 HS:Addr
 JR:Addr
 DM:Addr
 Fb:Addr
 HG:Addr
 aU:Addr
 JE:Addr
 wg:Addr
 vA:Addr
 Form:Addr
structure Mg(mg:Str->Option Value)(t:y_):Prop where
 yn:mg "ValueError"=none
 Qf:mg "all"=none
 vC:mg "int"=none
 dE:mg "isinstance"=none
 dj:mg "len"=none
 QF:mg "list"=none
 V4:mg "max"=none
 WR:mg "min"=none
 fE:mg "range"=none
 Bh:mg "reversed"=none
 Kn:mg "str"=none
 yy:mg "tuple"=none
 g_MOST_KNOTS:∃tk,mg "MOST_KNOTS"=some (.int 600 tk)
 g_MOST_DEEP:∃tk,mg "MOST_DEEP"=some (.int 40 tk)
 g_MOST_VARIABLE:∃tk,mg "MOST_VARIABLE"=some (.int 99 tk)
 g_MOST_LETTERS:∃tk,mg "MOST_LETTERS"=some (.int 12 tk)
 g_LETTERS:∃tk,mg "LETTERS"=some (.str "abcdefghijklmnopqrstuvwxyz" tk)
 g_KIND_WORDS:mg "KIND_WORDS"=some (.ref t.hI)
 g_KIDS_DUE:mg "KIDS_DUE"=some (.ref t.kE)
 g_BINDER_OVER:mg "BINDER_OVER"=some (.ref t.gg)
 g_FIGURES:∃tk,mg "FIGURES"=some (.str "0123456789" tk)
 g_MOST_FIGURE:∃tk,mg "MOST_FIGURE"=some (.int 39 tk)
 g_KeeperError:mg "KeeperError"=some (.ref t.iR)
 g_Great:mg "Great"=some (.ref t.gi)
 g_NoPlace:mg "NoPlace"=some (.ref t.DH)
 g_NoStep:mg "NoStep"=some (.ref t.Kl)
 g_Dry:mg "Dry"=some (.ref t.Dry)
 g_NoVariable:mg "NoVariable"=some (.ref t.tM)
 g_NoName:mg "NoName"=some (.ref t.HS)
 g_NotAll:mg "NotAll"=some (.ref t.JR)
 g_NotSome:mg "NotSome"=some (.ref t.DM)
 g_NotSame:mg "NotSame"=some (.ref t.Fb)
 g_Unlike:mg "Unlike"=some (.ref t.HG)
 g_NoText:mg "NoText"=some (.ref t.aU)
 g_NoWord:mg "NoWord"=some (.ref t.JE)
 g_TwiceTold:mg "TwiceTold"=some (.ref t.wg)
 g_NotClosed:mg "NotClosed"=some (.ref t.vA)
 g_Form:mg "Form"=some (.ref t.Form)
seal L2.PE L2.PS L2.jx L2.PT L2.PW L2.PA L2.PG L2.G0 L2.PI L2.PC L2.PO L2.G3 L2.PK L3.Ba
variable{P:Program}{w:World}{K:PySem.W.Frag}{mg:Str->Option Value}{base:Heap}{f:Addr}{fd:FuncData}
noncomputable def b8(ns:List Int)(k:Nat):Int:=(ns[k]?).getD 0
def uC(K:PySem.W.Frag):Sp:=λvs H Q _=>∃(a:Addr)(ns:List Int)(k:Nat),vs=[.ref a, .int k]/\bj K H a (ns.map V.int)/\Q (.int (b8 ns k)) H
theorem Rh:aJ ["_law_script","_law_k"] ["_law_script","_law_k"] (aq dO):=⟨rfl,rfl,rfl,by decide+kernel,rfl,by decide+kernel,by decide+kernel⟩
theorem NC(F:NI K "_law_cell_at" "_law_cell_at" dO f fd)(i:mg "len"=none):nP P w K mg base cR 1 f fd ["_law_script","_law_k"] (uC K):=by
 refine F.ok Rh (λvs H Q E h=>?_) (λcH A outer s H vs Q E j h=>?_);·obtain⟨a,ns,k,rfl,_⟩:=h;rfl
 obtain⟨a,ns,k,rfl,g,q⟩:=h;refine⟨_,ah (aS (ar Ei (pv 1) (aM aL rfl i PySem.boot_len (aa (pv 0) af)) (az _)) (ao (aB (aZ aP (pv 0) (pv 1) (λ_ _=>rfl)))) aC) (ao (aB aj)),?_⟩;refine⟨_,rfl,_,rfl,a,_,rfl, .inl g,_,_,rfl,rfl,_,rfl,?_⟩;have hl:(ns.map V.int).length=ns.length:=bT _;refine bz (λc=>?_) (λc=>?_)
 ·have d:(k:Int)<(((ns.map V.int).length:Nat):Int):=of_decide_eq_true c;have b:k<ns.length:=by rw[hl]at d;omega
  have e:b8 ns k=ns[k]:=by unfold b8;simp[b]
  rw[e]at q;exact⟨_,rfl,_,rfl,a,_,_,_,rfl,rfl,g,aG (by rw[fU,cN b]<;>rfl),q⟩
 ·have d:¬(k:Int)<(((ns.map V.int).length:Nat):Int):=of_decide_eq_false (Bool.eq_false_iff.mpr c);have b:ns.length<=k:=by rw[hl]at d;omega
  have e:b8 ns k=0:=by unfold b8;rw[List.getElem?_eq_none b];rfl
  rw[e]at q;exact q
variable{P:Program}{w:World}{K:PySem.W.Frag}{mg:Str->Option Value}{base:Heap}{f:Addr}{fd:FuncData}
noncomputable def UI:List (Key×V):=[(.inr "nat", .str ""),(.inr "none", .str ""),(.inr "zero", .str ""),(.inr "all", .str "kk"),(.inr "some", .str "kk"),(.inr "same", .str "ktt"),(.inr "fun", .str "kt"),(.inr "app", .str "tt")]
noncomputable def UB:List (Key×V):=[(.inr "next", .str "t"),(.inr "rec", .str "kttt"),(.inr "like", .str "kt"),(.inr "carry", .str "ktt"),(.inr "never", .str "kt"),(.inr "pair", .str "ktt"),(.inr "first", .str "t")]
noncomputable def Wm:List (Key×V):=[(.inr "second", .str "t"),(.inr "var", .str "n"),(.inr "name", .str "w")]
noncomputable def eL(x:Str):V:=match lU UI (Sum.inr x:Key)with|some v=>v|none=>match lU UB (Sum.inr x:Key)with|some v=>v|none=>(lU Wm (Sum.inr x:Key)).getD .bU
noncomputable def dB(w:Str):Bool:=Ph (.str w) [.str "nat", .str "none", .str "all", .str "some", .str "same"]
noncomputable def vm:D->Bool| .int i=>decide (0<=i)&&decide (i<=99)|_=>false
mutual noncomputable def fz(nm:D->Bool)(k:Bool):D->Bool
 | .tup (.str w::ps)=>match eL w with| .str s=>(dB w==k)&&m7 nm s.cps.toList ps|_=>false
 |_=>false noncomputable def m7(nm:D->Bool):List Nat->List D->Bool|[],[]=>true|c::cs,p::ps=>(if c=107 then fz nm true p else if c=116 then fz nm false p else if c=110 then vm p else nm p)&&m7 nm cs ps|_,_=>false end
noncomputable def sE(nm:D->Bool)(c:Nat)(p:D):Bool:=if c=107 then fz nm true p else if c=116 then fz nm false p else if c=110 then vm p else nm p
theorem dP(nm:D->Bool)(c:Nat)(a:List Nat)(p:D)(ps:List D):m7 nm (c::a) (p::ps)=(sE nm c p&&m7 nm a ps):=by rw[m7];rfl
theorem jZ{nm:D->Bool}{k:Bool}{w s:Str}{ps:List D}(h1:eL w= .str s)(h2:dB w=k)(h3:m7 nm s.cps.toList ps=true):fz nm k (.tup (.str w::ps))=true:=by rw[fz,h1];simp[h2,h3]
theorem i_:eL "var"= .str "n":=by decide+kernel
theorem jR:eL "name"= .str "w":=by decide+kernel
theorem Ku:dB "var"=false:=by decide+kernel
theorem F_:dB "name"=false:=by decide+kernel
theorem JZ:(Str.ofString "n").cps.toList=[110]:=by decide+kernel
theorem P_:(Str.ofString "w").cps.toList=[119]:=by decide+kernel
theorem RK{nm:D->Bool}{z:Int}(a:0<=z)(h1:z<=99):fz nm false (.tup [.str "var", .int z])=true:=by refine jZ i_ Ku ?_;rw[JZ,dP];simp[sE,vm,a,h1,m7]
theorem L_{nm:D->Bool}{y:Str}(h:nm (.str y)=true):fz nm false (.tup [.str "name", .str y])=true:=by refine jZ jR F_ ?_;rw[P_,dP];simp[sE,h,m7]
variable{P:Program}{w:World}{K:PySem.W.Frag}{mg:Str->Option Value}{base:Heap}{f fN fM fS:Addr}{fd fdN fdM fdS:FuncData}
noncomputable def w0(k:Bool):Str:=if k then"nat"else"var"
variable{t:y_}
end K54
end
section
namespace L3
open PySem PySem.Spec PyProof.Rows L2 KM
theorem G_{prog:Program}{w:World}{A:Around}{E:Value->Shared->Prop}{s:Shared}{t b:Addr}{ws:List Value}{Q:Value->Shared->Prop}(ht:IsTup s.heap t (([]:List Value)).toArray)(hb:IsTup s.heap b ws.toArray)(h1:Q (.ref b) s):wpAny (model prog w) A (binaryOp .Add (.ref t) (.ref b)) Q E s:=by obtain⟨⟨cls,dd,data,sl⟩,d,hc,n,hd⟩:=id ht;obtain⟨⟨i,f,data2,h⟩,e,a,g,c⟩:=id hb;simp only at hc hd a c;subst hc hd a c;exact concat_meets ⟨_,d,rfl⟩ ⟨_,e,rfl⟩ noFill_tuple_add seq_tuple_add PySem.F.slot_tuple_add PySem.F.entry_tuple_add (PySem.F.args_tuple_add_2 _ _) (tuple_addW0 t b _ ws.toArray n g dd f sl h (by simp)) ⟨d,e,h1⟩
noncomputable def UJ(K:PySem.W.Frag):R2:=λx y H Q=>∃a b xs ys,x= .ref a/\y= .ref b/\gG K H a xs/\gG K H b ys/\xs.length+ys.length<=sizeLine/\(xs=[]->Q (.ref b) H)/\(xs≠[]->ys=[]->Q (.ref a) H)/\(xs≠[]->ys≠[]->∀p,H p=none->Q (.ref p) (upd H p (.tup (xs++ys))))
theorem M9{X:Cx}:jo X (binaryOp .Add) (UJ X.K):=by
 intro pins s σ H x y v u Q I d f h;obtain⟨a,b,xs,ys,rfl,rfl,ha,hb,g,k,l,m⟩:=h;by_cases c:xs=[];·cases d;cases f;subst c;obtain⟨its,n,i,_⟩:=I.tuple ha;obtain⟨o,p,j,_⟩:=I.tuple hb;have e:its=[]:=n.pM.mpr rfl;subst e;exact G_ i j ⟨.ref b,H,I,rfl,k rfl⟩
 ·exact MS pins s σ H _ _ v u Q I d f ⟨a,b,xs,ys,rfl,rfl,ha,hb,c,g,l c,m c⟩
noncomputable def Vk:R2:=λx y H Q=>∃a b xs ys,x= .ref a/\y= .ref b/\H a=some (.tup xs)/\H b=some (.tup ys)/\xs.length+ys.length<=sizeLine/\∀p H',aD H H'->H' p=some (.tup (xs++ys))->Q (.ref p) H'
theorem DL{X:Cx}:jo X (binaryOp .Add) Vk:=by
 intro pins s σ H x y v u Q I f g h;obtain⟨a,b,xs,ys,rfl,rfl,ha,hb,d,q⟩:=h;refine M9 pins s σ H _ _ v u Q I f g ⟨a,b,xs,ys,rfl,rfl,gG.of ha,gG.of hb,d,λe=>?_,λ_ e=>?_,λ_ _ p c=>q p _ (ak c _) ag⟩;·subst e;exact q b H (aD.refl H) hb
 ·subst e;exact q a H (aD.refl H) (by rw[eY];exact ha)
theorem wb{X:Cx}{K:PySem.W.Frag}{a C:Addr}{oe:Obj}(e:(a,oe)∈X.pn)(hc:oe.cls= .ref C)(d:X.K=K:=by rfl):fA X (.builtin "isinstance") (λxs H Q=>∃y c b,xs=[.ref a,y]/\sS K C/\(∀u,RelV y u->u=c)/\PySem.W.kitOne K (.ref C) c=some b/\Q (.bl b) H):=by subst d;exact Hh e hc
mutual theorem Rep.II{H:Hp}{p:Addr}{xs:List V}{o:HO}(h:H p=some (.lst xs)):∀{d:D}{v:V},Rep H d v->Rep (upd H p o) d v| .bU,_,r=>r| .bl _,_,r=>r| .int _,_,r=>r| .str _,_,r=>r| .tup _,_,⟨a,vs,e,q,r⟩=>⟨a,vs,e,by rw[bc (Wx q h (by simp))];exact q,bS.II h r⟩theorem bS.II{H:Hp}{p:Addr}{xs:List V}{o:HO}(h:H p=some (.lst xs)):∀{ds:List D}{vs:List V},bS H ds vs->bS (upd H p o) ds vs|[],_,r=>r|_::_,_,⟨v,r,e,q,t⟩=>⟨v,r,e,Rep.II h q,bS.II h t⟩end
end L3
end
section
namespace L3
open PySem PySem.Spec PyProof.Rows L2
end L3
end
section
namespace L3
open PySem PySem.Spec PyProof.Rows L2 KM
theorem s_:∀(ns:List Nat)(k:Nat),(ns[k]?).getD 0<=ns.sum|[],_=>by simp|n::ns,0=>by simp|n::ns,k+1=>by have :=s_ ns k;simp only[List.getElem?_cons_succ,List.sum_cons];lia
theorem GN{J:It}{p:Addr}{h:Hp}{g:TG}{w:TE}{b:L2.St}{C:Hp->Prop}(n:Nat)(B:Nat->Int->Prop)(t:h p=none)(hn:n<=sizeLine)(E:∀i a,i<n->aD h a->J.go i a/\∀x d,J.uT i a x d->∀(R:V->Hp->Prop),(∀(z:Int)f,aD a f->B i z->R (.int z) f)->g x b d λl o=>w l o R)(hd:∀(ns:List Int)a,aD h a->ns.length=n->(∀(i:Nat)(z:Int),ns[i]?=some z->B i z)->a p=some (.lst (ns.map V.int))->J.stop n a/\C a):∃W:Nat->Nat->List V->Hp->Prop,(∃m,W 0 m [] (upd h p (.lst [])))/\∀i m c a,W i m c a->(J.stop i a/\C a)\/(J.go i a/\∀x d,J.uT i a x d->g x b d λl o=>BN l o λok s=>if ok=true then w l s λv f=>f p=some (.lst c)/\c.length<sizeLine/\∃k,k<m/\W (i+1) k (c++[v]) (upd f p (.lst (c++[v])))else∃k,k<m/\W (i+1) k c s):=by
 refine iW (Q:=λ_ H=>C H) n (λi c a=>∃ns:List Int,c=ns.map V.int/\ns.length=i/\(∀(j:Nat)(z:Int),ns[j]?=some z->B j z)/\a p=some (.lst c)/\aD h a) ⟨[],rfl,rfl,λj z e=>by simp at e,ag,ak t _⟩ ?_ ?_
 ·rintro i c a hi⟨ns,rfl,hl,r,h2,s2⟩;obtain⟨A,D⟩:=E i a hi s2;refine⟨A,λx d y=>?_⟩;simp only[BN,if_true];refine D x d y _ λz f u G=>⟨u _ _ h2,by rw[bT];lia,nx hi ⟨ns++[z],by simp,by simp[hl],λj y e=>?_,ag,gR (s2.trans u) t⟩⟩;by_cases F:j<ns.length;·rw[AL F]at e;exact r j y e
  ·rw[List.getElem?_append_right (by lia)]at e;have :j-ns.length=0:=by
    by_cases q:j-ns.length=0;·exact q
    ·rw[List.getElem?_eq_none (by simp;lia)]at e;cases e
   rw[this]at e;simp at e;subst e;have :j=i:=by lia
   rw[this];exact G
 ·rintro c a⟨ns,rfl,hl,r,h2,s2⟩;exact hd ns a s2 hl r h2
theorem mn{m:Int}:∀(r:List Int)(a:Int),a<=m->(∀z∈r,z<=m)->r.foldl S0 a<=m|[],a,h,_=>h|z::r,a,h,b=>by refine mn r _ ?_ λy c=>b y (cU _ c);have :=b z b5;unfold S0;split<;>lia
theorem maxD_le{ns:List Int}{d m:Int}(hd:d<=m)(h:∀z∈ns,z<=m):maxD ns d<=m:=by cases ns with|nil=>exact hd|cons a r=>exact mn r a (h a b5) λz b=>h z (cU _ b)
end L3
end
section
namespace L3
open PySem PySem.Spec PyProof.Rows L2
theorem Cn{X:Cx}{ix:Nat}{x:Str}{pos' apos:Pos}{tg iter K:Expr}{L:List Expr}{scope:Scope}{pos:Pos}{wi:TI}{g:TG}{tt:TT}{te:TE}{N':List Str}{own:Nat}{fr:List Nat}(hN:X.N.Nodup)(hix:X.N[ix]?=some x)(hlx:X.env.scope.names.lookup x=some .local)(hc:X.calm=true)(S:kN X N' own fr scope)(hi:PI X tg iter wi)(ho:Own own g)(hg:∀F C fp,PG (dG X N' scope F C fp) tg g)(hf:∀F C fp,Ba (dG X N' scope F C fp) L tt)(he:∀F C fp,PE (dG X N' scope F C fp) K te)(hsw:swapsWithSole [.Name x pos'] (.ListComp K [⟨tg,iter,L,0⟩] scope pos) apos.line X.env=pure true:=by rfl)(hs:∀x,foldedSetIterable iter X.env x=pure x:=by intro _;rfl):PS X (.Assign [.Name x pos'] (.ListComp K [⟨tg,iter,L,0⟩] scope pos) apos) (yx (N7 own fr wi g tt te) (il ix)):=by
 intro pins s σ H D I h;have LG:∀x∈scope.names,x.2= .free->∃c,X.env.cells.lookup x.1=some c:=λx hx e=>I.ok.has x.1 (S.free x hx e);rw[exec_Assign_arm];refine aw (wpAny_standAt (aw (wpAny_of_eq hsw ?_)));rw[if_pos rfl,arm_evalThenUse_ListComp];refine aw (aw (fk (Q:=λ_ s'=>SP X pins D .next s') ?_ (λ_ s' q=>bf (bf q)) λ_ _ z=>z));refine wpAny_comprehension_free (use:=some _) (Q:=λ_ s'=>SP X pins D .next s') rfl hs (uP LG) S.kind S.loc ?_;refine bR (hi pins s σ H _ I h) λv s1 h1=>bR h1 λYu s2 h2=>?_;obtain⟨it,fp,tn,J,d,e,I2,T,Tr,w,h2⟩:=h2;subst e;refine wpAny_newObj_type (hd:=by size_fits) (wpAny_newFunctionEnv S.Be (by intro y hy;simp at hy) (λh4 Y Q6=>?_) S.kind);have C7:=I2.cI.fresh (bB s2.heap.objs.size);obtain⟨W,⟨m0,w0⟩,turn⟩:=h2 _ C7;have k:Inv X pins σ (upd d s2.heap.objs.size (.lst [])) {s2 with heap:=s2.heap.push {cls:= .type "list",dict:=none,data:= .seq ([]:List Value).toArray},toks:=s2.toks}:=I2.JJ .nil (fV _);have Vq:∀b∈fp,b<s2.heap.objs.size:=λb hb=>let⟨o,e,_⟩:=T.obj _ _ Tr b hb;bZ e;have up2:∀b o,s2.heap.get? b=some o->∀ob:Obj,(s2.heap.push ob).get? b=some o:=λb o e ob=>cW _ e;have Wo:(s2.heap.push {cls:= .type "list",dict:=none,data:= .seq ([]:List Value).toArray}).objs.size=s2.heap.objs.size+1:=Heap.size_push ..;revert Y Q6 k;generalize e3:s2.heap.push {cls:= .type "list",dict:=none,data:= .seq ([]:List Value).toArray}=h3 at Wo⊢;intro Y Q6 k;have keep:∀b o,h3.get? b=some o->h4.get? b=some o:=λb o e=>(Q6.2 b (eH (bZ e))).trans (cW _ e);have U:∀b∈fp,uj X pins (upd d s2.heap.objs.size (.lst [])) b/\b<h3.objs.size:=λb hb=>by refine⟨⟨?_,(w b hb).2⟩,by rw[Wo];exact Nat.lt_succ_of_lt (Vq b hb)⟩;rw[bc (eH (Vq b hb))];exact(w b hb).1
 have G:=Cy (t4:=s2.toks+([]:List (Str×Value)).length) S k U keep Y;have R7:tn 0 h4:=T.keep _ _ _ Tr λb hb o e=>keep b o (by rw[<-e3];exact up2 b o e _);have sX:∀{H':Hp},(∀b∈fp,H' b=none)->∀b∈fp,uj (dG X N' scope {s2 with heap:=h3,toks:=s2.toks} (upd d s2.heap.objs.size (.lst [])) fp) [] H' b:=λ{H'}hn b hb=>⟨hn b hb,eH (U b hb).2,λz=>G.ok.Bg b hb z, .inl hb,(G.ok.U5 b hb).2,λp Z=>(w b hb).2.2.2.2.2 p (kP _ (by simpa using Z))⟩;have loop:∀N:Shared,Inv (dG X N' scope {s2 with heap:=h3,toks:=s2.toks} (upd d s2.heap.objs.size (.lst [])) fp) [] (gd own fr σ) (upd d s2.heap.objs.size (.lst [])) N->tn 0 N.heap->codeAny (model X.prog X.w) X.A (.compLoop (.ListComp K [⟨tg,iter,L,0⟩] scope pos) 0 (.ref it) (.ref s2.heap.objs.size) (B6 X scope h3.objs.size)) (compPost (model X.prog X.w) X.A X.xe (some λv=>assignAll v ((assignEach [.Name x pos'] X.env).map (·.2))) (λ_ s'=>SP X pins D .next s') (.ref s2.heap.objs.size) h3.objs.size) N:=by
  intro N Ix tx;refine mS (λn s'=>∃i t H',Inv (dG X N' scope {s2 with heap:=h3,toks:=s2.toks} (upd d s2.heap.objs.size (.lst [])) fp) [] (gd own fr σ) H' s'/\tn i s'.heap/\(∀b∈fp,H' b=none)/\W i n t H') ?_ m0 ⟨0,[],_,Ix,tx,λb hb=>(U b hb).1.1,w0⟩;rintro n s5⟨i,t,E,I5,NF,TQ,w5⟩;rcases turn i n t E w5 with⟨stop,qn⟩|⟨go,step⟩
  ·refine bR (T.done (dG X N' scope {s2 with heap:=h3,toks:=s2.toks} (upd d s2.heap.objs.size (.lst [])) fp) rfl rfl rfl hc i [] s5 _ E (λ_ _=>False) I5 (sX TQ) NF stop) λr M a=>?_;obtain⟨hr,A⟩:=a;subst hr;obtain⟨m6,ZI,_⟩:=id A.loc;have P:Inv X pins σ E M:=k.JC (s':=M) (ch:=fp) A.os (ur (h2:=M.heap) A.base (bB _) ⟨rfl,λ_ _=>rfl⟩) A.cI A.bare λb hb=>⟨(w b hb).2.2.2.1,(w b hb).2.1,(w b hb).2.2.2.2.1,(w b hb).2.2.2.2.2⟩;show wpAny _ _ (assign (.Name x pos') X.env (.ref s2.heap.objs.size)) _ _ _;refine wpAny_assign_Name (vO (v:= .ref s2.heap.objs.size) P hN hix (.inl hlx) rfl (λs8 R a=>?_) (.inr hlx));obtain⟨a8,sb8,ha8⟩:=a;have ltc:∀y c,X.env.cells.lookup y=some c->c<h3.objs.size:=λy c e=>by obtain⟨v,o,eo,_⟩:=k.cell y c e;exact bZ eo
   have na8:h3.objs.size≠a8:=by
    rcases ha8 with z|z;·rw[z];exact Nat.ne_of_gt k.lt
    ·exact Nat.ne_of_gt (ltc _ _ z)
   obtain⟨o6,es6,ep6,ho6,r6⟩:=ZI;refine⟨m6,⟨o6,es6,ep6,(sb8.2 _ na8).trans ho6,r6⟩,λh9 hs9=>?_⟩;have l:=R.turned (h':=h9) (t':=s8.toks) (it:=h3.objs.size) (λb o hb e=>(hs9.2 b hb).trans e) A.free (Nat.ne_of_gt k.lt) (.inr k.sz) (λy c e=>eH (ltc y c e)) λp Z=>eH (bZ (k.pin p Z).1);exact⟨_,E,l,qn⟩
  ·refine bR (T.item (dG X N' scope {s2 with heap:=h3,toks:=s2.toks} (upd d s2.heap.objs.size (.lst [])) fp) rfl rfl rfl hc i [] s5 _ E (λ_ _=>False) I5 (sX TQ) NF go) λr M a=>?_;obtain⟨u,hr,h6⟩:=a;subst hr;refine bR h6 λ_ s7 a=>?_;obtain⟨x,H7,P,r7,y7,RW,Z3⟩:=a;have I7':=P.pinned (sX Z3) (T.obj _ _ RW);refine bR (hg _ _ _ _ s7 _ H7 x u _ I7' r7 (ho _ _ _ _ (step x H7 y7))) λ_ s8 a=>?_;obtain⟨O,H8,R,q8,l8,k8⟩:=a;have again:∀{m:Hp}{B:Shared},Inv (dG X N' scope {s2 with heap:=h3,toks:=s2.toks} (upd d s2.heap.objs.size (.lst [])) fp) ([]++ly fp s7.heap) O m B->Inv (dG X N' scope {s2 with heap:=h3,toks:=s2.toks} (upd d s2.heap.objs.size (.lst [])) fp) [] (gd own fr σ) m B/\tn (i+1) B.heap/\∀b∈fp,m b=none:=λ{m B}l=>by
    refine⟨l.iP.weak l8.symm λj v e=>?_,T.keep _ _ _ RW λb hb o e=>(l.pin (b,o) (gP _ (gP _ (eI hb e)))).1,λb hb=>?_⟩
    ·have hj:own<=j:=by refine Nat.le_of_not_lt λz=>?_;unfold gd at e;rw[AL (by simpa using z),List.getElem?_replicate]at e;split at e<;>cases e
     rw[k8 j hj];exact e
    ·obtain⟨o,e,_⟩:=T.obj _ _ RW b hb;exact(l.pin (b,o) (gP _ (gP _ (eI hb e)))).2.1
   refine bR (hf _ _ _ _ s8 O H8 _ R q8) λok B a=>?_;obtain⟨m,l,q9⟩:=a;cases ok with|false=>obtain⟨m',V,w9⟩:=q9;obtain⟨a1,a2,a3⟩:=again l;exact⟨m',V,i+1,t,m,a1,a2,a3,w9⟩|true=>refine bR (he _ _ _ _ B O m _ l q9) λy ZH a=>?_;obtain⟨v,LV,I10,r10,SW,QV,m',V,w10⟩:=a;refine bR (fL _ ZH O LV (.ref s2.heap.objs.size) [v] (.ref s2.heap.objs.size) [y] (λ_ Hn=>Hn=upd LV s2.heap.objs.size (.lst (t++[v]))) I10 rfl (.cons r10 .nil) ⟨_,t,v,rfl,rfl,SW,QV,rfl⟩) λ_ s11 a=>?_;obtain⟨_,UA,I11,_,Z7⟩:=a;subst Z7;obtain⟨a1,a2,a3⟩:=again I11;exact⟨m',V,i+1,t++[v],_,a1,a2,a3,w10⟩
 exact codeAny_compStart_list (loop _ G R7) (fk (T.self X.A 0 _ (λv s'=>v= .ref it/\s'=_) (λ_ _=>False) R7 ⟨rfl,rfl⟩) (λv s'⟨e1,e2⟩=>by subst e1;subst e2;exact loop _ G R7) λ_ _ f=>f.elim)
end L3
end
section
namespace L3
open PySem PySem.Spec PyProof.Rows L2 KM
section
variable{X:Cx}
theorem Ak:∀{ys:List Str}{us:List Value},Vals (ys.map V.str) us->StrsAre us ys|[],_, .nil=> .nil|y::ys,_, .cons r t=>by obtain⟨tk,rfl⟩:=(show∃t,_=Value.str y t from r);exact .cons y tk (Ak t)
theorem FL(hh:X.A.handled=none):fA X (.builtin "min") (λxs H Q=>∃i j:Int,xs=[.int i, .int j]/\Q (.int (if j<i then j else i)) H):=by
 intro pins s σ H xs us Q I r h;obtain⟨i,j,rfl,q⟩:=h;obtain⟨d,e,rfl,b,c⟩:=Vals.two r;obtain⟨f,rfl⟩:=(show∃t,d=Value.int i t from b);obtain⟨g,rfl⟩:=(show∃t,e=Value.int j t from c);refine min_two_ints hh λh' tk a=>⟨.int (if j<i then j else i),H,I.kept (h':=h') (t':=tk) a,?_,q⟩;split;·exact⟨_,rfl⟩
 ·exact⟨_,rfl⟩
end
section
variable{X:Cx}{pins:List (Addr×Obj)}{σ:L2.St}{H:Hp}{s:Shared}{a:Addr}{D:List (Str×V)}{k:Str}{tk:Tok}{A:Around}{E:Value->Shared->Prop}
theorem JN{Q:Value->Shared->Prop}{x:V}{b:Value}(T:k_ X.K a D)(I:Inv X pins σ H s)(d:RelV x b)(h:∀c,RelV ((KTD.datumAt k D).getD x) c->Q c {s with toks:=s.toks+1}):wpAny (model X.prog X.w) A (call (.builtin "dict.get") [.ref a, .str k tk,b]) Q E s:=by
 have ty:=T.typeIs I;refine wpAny_call_entry PySem.F.slot_dict_get ty PySem.F.entry_dict_get ?_ (PySem.F.args_dict_get_3 _ _ _);show wpAny (model X.prog X.w) _ (dictGet a (.str k tk)>>=_) _ _ s;refine aw (yH T I (λv u e r=>?_) λhn=>?_);·have h:=h u (by rw[e];exact r);exact bf ⟨u,rfl,h⟩
 ·have h:=h b (by rw[hn];exact d);refine aw ?_;unfold Builtin.Dict.missed;rw[T.sys];simp only[Bool.false_eq_true,if_false];exact bf (bf ⟨_,rfl,h⟩)
end
noncomputable def SF(K:PySem.W.Frag)(e ty tx:TE):TE:=λσ H Q=>e σ H λx b=>∃a D,x= .ref a/\k_ K a D/\ty σ b λy c=>tx σ c λz d=>∃k,y= .str k/\Q ((KTD.datumAt k D).getD z) d
theorem IE{X:Cx}{o e f:Expr}{apos ee:Pos}{g ty tx:TE}(A:PE X o g)(v:PE X e ty)(w:PE X f tx)(m:M2 X o "get" apos e f ee):PE X (.Call (.Attribute o "get" apos) [e,f] [] ee) (SF X.K g ty tx):=by
 intro pins s σ H Q I h;refine wpAny_Call_method m.base m.UG m.line PySem.F.plainAttrs_dict PySem.F.slot_dict_get PySem.F.type_dict_get (bR (A pins s σ H _ I h) λu s1 L=>?_);obtain⟨x,i,c,F,a,D,ex,T,B⟩:=L;subst ex;obtain rfl:u=Value.ref a:=F;have K:=T.typeIs c;refine⟨K,λb q=>?_,?_⟩;·cases q;obtain⟨o,_,_,e,x,_⟩:=T.ex;exact⟨o,c.ic a o e,x.2.1⟩
 rw[m.trees];refine Calls.callWith_builtin rfl (Calls.evalArgs_plain (Calls.spliced_cons (bR (v pins s1 σ i _ c B) λN s2⟨y,j,n,G,C⟩=>Calls.spliced_cons (bR (w pins s2 σ j _ n C) λM O⟨z,l,d,J,k,p,E⟩=>Calls.spliced_nil ?_))));subst p;obtain⟨t,rfl⟩:=G;exact JN T d J λP r=>⟨_,l,d.tok _,r,E⟩
theorem S9:bootBuiltins "min"=some (.builtin "min"):=by decide+kernel
theorem F0{J:It}{p:Addr}{h:Hp}{g:TG}{w:TE}{b:L2.St}{C:Hp->Prop}(n:Nat)(B:Nat->V->Prop)(t:h p=none)(hn:n<=sizeLine)(E:∀i a,i<n->aD h a->J.go i a/\∀x d,J.uT i a x d->∀(R:V->Hp->Prop),(∀(z:V)f,aD a f->B i z->R z f)->g x b d λl o=>w l o R)(hd:∀(ns:List V)a,aD h a->ns.length=n->(∀(i:Nat)(z:V),ns[i]?=some z->B i z)->a p=some (.lst ns)->J.stop n a/\C a):∃W:Nat->Nat->List V->Hp->Prop,(∃m,W 0 m [] (upd h p (.lst [])))/\∀i m c a,W i m c a->(J.stop i a/\C a)\/(J.go i a/\∀x d,J.uT i a x d->g x b d λl o=>BN l o λok s=>if ok=true then w l s λv f=>f p=some (.lst c)/\c.length<sizeLine/\∃k,k<m/\W (i+1) k (c++[v]) (upd f p (.lst (c++[v])))else∃k,k<m/\W (i+1) k c s):=by
 refine iW (Q:=λ_ H=>C H) n (λi c a=>c.length=i/\(∀(j:Nat)(z:V),c[j]?=some z->B j z)/\a p=some (.lst c)/\aD h a) ⟨rfl,λj z e=>by simp at e,ag,ak t _⟩ ?_ ?_
 ·rintro i c a hi⟨hl,r,h2,s2⟩;obtain⟨A,D⟩:=E i a hi s2;refine⟨A,λx d y=>?_⟩;simp only[BN,if_true];refine D x d y _ λz f u G=>⟨u _ _ h2,by lia,nx hi ⟨by simp[hl],λj y e=>?_,ag,gR (s2.trans u) t⟩⟩;by_cases F:j<c.length;·rw[AL F]at e;exact r j y e
  ·rw[List.getElem?_append_right (by lia)]at e;have :j-c.length=0:=by
    by_cases q:j-c.length=0;·exact q
    ·rw[List.getElem?_eq_none (by simp;lia)]at e;cases e
   rw[this]at e;simp at e;subst e;have :j=i:=by lia
   rw[this];exact G
 ·rintro c a⟨hl,r,h2,s2⟩;exact hd c a s2 hl r h2
mutual noncomputable def Uk:D->PyData| .bU=> .none| .bl b=> .bool b| .int i=> .int i| .str x=> .str x| .tup ds=> .tuple (R_ ds)noncomputable def R_:List D->List PyData|[]=>[]|d::ds=>Uk d::R_ ds end
mutual theorem AR:∀d:D,(Uk d).depth<=depth d| .bU=>fV _| .bl _=>fV _| .int _=>fV _| .str _=>fV _| .tup ds=>by show PyData.depthAll (R_ ds)+1<=1+aO ds;have :=we ds;lia theorem we:∀ds:List D,PyData.depthAll (R_ ds)<=aO ds|[]=>fV _|d::ds=>by show max (Uk d).depth (PyData.depthAll (R_ ds))<=max (depth d) (aO ds);have h1:=AR d;have h2:=we ds;lia end
section
variable{X:Cx}{pins:List (Addr×Obj)}{σ:L2.St}{H:Hp}{s:Shared}
end
mutual noncomputable def h8:D->Bool| .bU=>true| .bl _=>false| .int _=>true| .str x=>(PyData.str x).canLay0| .tup ds=>vp ds noncomputable def vp:List D->Bool|[]=>true|d::ds=>h8 d&&vp ds end
mutual theorem ED:∀d:D,h8 d=true->(Uk d).canLay0=true| .bU,_=>rfl| .bl _,h=>by cases h| .int _,_=>rfl| .str x,h=>h| .tup ds,h=>A7 ds h theorem A7:∀ds:List D,vp ds=true->PyData.canLayAll0 (R_ ds)=true|[],_=>rfl|d::ds,h=>by have h:(h8 d&&vp ds)=true:=h;rw[bW]at h;show((Uk d).canLay0&&PyData.canLayAll0 (R_ ds))=true;rw[ED d h.1,A7 ds h.2];rfl end
theorem shp{d:D}(h:h8 d=true)(hd:depth d<=60):SeqAt.shaped (Uk d)=true:=by unfold SeqAt.shaped;rw[ED d h,Bool.true_and];exact decide_eq_true (dI (AR d) (by lia))
theorem Gh{J:It}{p:Addr}{l:Hp}{g:TG}{E:TT}{B:TE}{b:L2.St}{C:Hp->Prop}(n:Nat)(f:Nat->Option D)(A:l p=none)(hn:n<=sizeLine)(I:∀i a,i<n->aD l a->J.go i a/\∀x j,J.uT i a x j->∀(R:V->Hp->Prop)(z:Hp->Prop),(∀(d:D)(v:V)k,f i=some d->aD a k->Rep k d v->R v k)->(∀h,f i=none->aD a h->z h)->g x b j λr t=>E r t λok h=>if ok=true then B r h R else z h)(hd:∀(vs:List V)a,aD l a->a p=some (.lst vs)->bS a ((List.range n).filterMap f) vs->J.stop n a/\C a):∃W:Nat->Nat->List V->Hp->Prop,(∃m,W 0 m [] (upd l p (.lst [])))/\∀i m c a,W i m c a->(J.stop i a/\C a)\/(J.go i a/\∀x j,J.uT i a x j->g x b j λr t=>E r t λok h=>if ok=true then B r h λv k=>k p=some (.lst c)/\c.length<sizeLine/\∃o,o<m/\W (i+1) o (c++[v]) (upd k p (.lst (c++[v])))else∃o,o<m/\W (i+1) o c h):=by
 refine iW (Q:=λ_ H=>C H) n (λi c a=>bS a ((List.range i).filterMap f) c/\a p=some (.lst c)/\aD l a) ⟨rfl,ag,ak A _⟩ ?_ ?_
 ·rintro i c a hi⟨q,h2,s2⟩;obtain⟨F,G⟩:=I i a hi s2;have K:c.length<sizeLine:=by have h1:=q.length;have :=List.length_filterMap_le f (List.range i);rw[List.length_range]at this;lia
  refine⟨F,λx j y=>G x j y _ _ (λd v k e s L=>⟨s _ _ h2,K,nx hi ⟨?_,ag,gR (s2.trans s) A⟩⟩) λh e w=>nx hi ⟨?_,w _ _ h2,s2.trans w⟩⟩
  ·rw[List.range_succ,List.filterMap_append];have u:List.filterMap f [i]=[d]:=by simp[e]
   rw[u];exact((q.mono s).append (bS.one L)).II (s _ _ h2)
  ·rw[List.range_succ,List.filterMap_append];have u:List.filterMap f [i]=[]:=by simp[e]
   rw[u,eY];exact q.mono w
 ·rintro c a⟨q,h2,s2⟩;exact hd c a s2 h2 q
section
variable{P:Program}{w:World}
open SeqAt MeetsSeq3 in open SeqAt MeetsSeq3 in end
section
variable{X:Cx}
end
theorem JK{J:It}{p:Addr}{l:Hp}{g:TG}{q:TT}{o:TE}{b:L2.St}{C:Hp->Prop}(n:Nat)(Pv:Nat->List V->Hp->Prop)(r:Pv 0 [] (upd l p (.lst [])))(s:∀i a c,i<n->Pv i a c->J.go i c/\∀x d,J.uT i c x d->g x b d λj k=>q j k λok e=>if ok=true then o j e λv f=>f p=some (.lst a)/\a.length<sizeLine/\Nx n i (Pv (i+1) (a++[v]) (upd f p (.lst (a++[v]))))else Nx n i (Pv (i+1) a e))(hd:∀a c,Pv n a c->J.stop n c/\C c):∃W:Nat->Nat->List V->Hp->Prop,(∃m,W 0 m [] (upd l p (.lst [])))/\∀i m a c,W i m a c->(J.stop i c/\C c)\/(J.go i c/\∀x d,J.uT i c x d->g x b d λj k=>q j k λok e=>if ok=true then o j e λv f=>f p=some (.lst a)/\a.length<sizeLine/\∃h,h<m/\W (i+1) h (a++[v]) (upd f p (.lst (a++[v])))else∃h,h<m/\W (i+1) h a e):=iW (Q:=λ_ H=>C H) n Pv r s hd
end L3
end
section
namespace L3
open PySem
theorem lE{M:Model}{a:Ctx}{p:Pos}{t:Sem Fin}{fs:List Frame}{s s':Shared}{e:End}(h:Runs M a p t fs s e s'):s.toks<=s'.toks:=by induction h<;>first|exact bB _|assumption|(apply dI _ (by assumption);exact Nat.le_succ _)|(apply dI<;>assumption)
theorem wp_toks{x:Type}{M:Model}{u:Ctx}(n:Nat)(t:Sem x):∀{Q:x->Pos->Shared->Prop}{E:Value->Pos->Shared->Prop}{p:Pos}{s:Shared},n<=s.toks->Sem.wp M u t Q E p s->Sem.wp M u t (λa j s'=>Q a j s'/\n<=s'.toks) (λe j s'=>E e j s'/\n<=s'.toks) p s:=by
 induction t with
  |pure a=>intro Q E p s hn h;rw[Sem.wp]at h⊢;exact⟨h,hn⟩
  |raise e=>intro Q E p s hn h;rw[Sem.wp]at h⊢;exact⟨h,hn⟩
  |unsupported w=>intro Q E p s hn h;rw[Sem.wp]at h;exact h.elim
  |finish w=>intro Q E p s hn h;rw[Sem.wp]at h;exact h.elim
  |rule A k b=>intro Q E p s hn h;rw[Sem.wp]at h⊢;exact b _ hn h
  |«at» j k b=>intro Q E p s hn h;rw[Sem.wp]at h⊢;exact b _ hn h
  |load a part k b=>intro Q E p s hn h;rw[Sem.wp]at h⊢;obtain⟨o,e,h⟩:=h;exact⟨o,e,b _ hn h⟩
  |update a part f k b=>intro Q E p s hn h;rw[Sem.wp]at h⊢;obtain⟨e,h⟩:=h;exact⟨e,b _ hn h⟩
  |alloc o k b=>intro Q E p s hn h;rw[Sem.wp]at h⊢;exact b _ hn h
  |loadIfAlive a k b=>intro Q E p s hn h;rw[Sem.wp]at h⊢;exact b _ hn h
  |point l k b=>intro Q E p s hn h;rw[Sem.wp]at h⊢;exact b _ hn h
  |register a k b=>intro Q E p s hn h;rw[Sem.wp]at h;exact h.elim
  |fresh k b=>intro Q E p s hn h;rw[Sem.wp]at h⊢;exact b _ (dI hn (Nat.le_succ _)) h
  |ask k b=>intro Q E p s hn h;rw[Sem.wp]at h⊢;exact b _ hn h
  |choose src m k b=>intro Q E p s hn h;rw[Sem.wp]at h⊢;obtain⟨e,h⟩:=h;exact⟨e,b _ hn h⟩
  |os q l k b=>intro Q E p s hn h;rw[Sem.wp]at h⊢;exact b _ hn h
  |call c hd g l k b=>intro Q E p s hn h;rw[Sem.wp]at h⊢;obtain⟨r,s',i,h⟩:=h;exact⟨r,s',i,b _ (dI hn (lE i)) h⟩
  |handled own k b=>intro Q E p s hn h;rw[Sem.wp]at h⊢;exact b _ hn h
  |newGen c k b=>intro Q E p s hn h;rw[Sem.wp]at h⊢;exact b _ hn h
  |genState g k b=>intro Q E p s hn h;rw[Sem.wp]at h⊢;obtain⟨st,e,h⟩:=h;exact⟨st,e,b _ hn h⟩
  |resume g r l k b=>
   intro Q E p s hn h;rw[Sem.wp]at h⊢;obtain⟨z,s',hw,h⟩:=h;refine⟨z,s',hw,b _ ?_ h⟩;unfold Wakes at hw;split at hw;·exact hw.elim
   ·split at hw;·obtain⟨y,s1,i,_,_,rfl⟩:=hw;have q:=lE i;exact dI hn q
    ·obtain⟨_,rfl⟩:=hw;exact hn
    ·obtain⟨_,rfl⟩:=hw;exact hn
   ·obtain⟨y,s1,i,_,_,rfl⟩:=hw;have q:=lE i;exact dI hn q
   ·obtain⟨_,rfl⟩:=hw;exact hn
   ·obtain⟨_,rfl⟩:=hw;exact hn
  |yield v g l k b=>intro Q E p s hn h;rw[Sem.wp]at h;exact h.elim
  |stack k b=>intro Q E p s hn h;rw[Sem.wp]at h⊢;exact b _ hn h
  |fork c k b=>intro Q E p s hn h;rw[Sem.wp]at h;exact h.elim
  |thread k b=>intro Q E p s hn h;rw[Sem.wp]at h⊢;exact b _ hn h
  |await a f d l k b=>intro Q E p s hn h;rw[Sem.wp]at h;exact h.elim
theorem wpAny_toks{b:Type}{M:Model}{A:Around}{t:Sem b}{Q:b->Shared->Prop}{E:Value->Shared->Prop}{s:Shared}(n:Nat)(hn:n<=s.toks)(h:wpAny M A t Q E s):wpAny M A t (λa s'=>Q a s'/\n<=s'.toks) (λe s'=>E e s'/\n<=s'.toks) s:=λc p hi=>wp_toks n t hn (h c p hi)
theorem My{c:Type}{M:Model}{A:Around}{t:Sem c}{Q b:c->Shared->Prop}{E:Value->Shared->Prop}{s:Shared}(f:0<s.toks)(h:wpAny M A t Q E s)(d:∀a s',0<s'.toks->Q a s'->b a s'):wpAny M A t b E s:=fk (wpAny_toks 1 f h) (λa s' z=>d a s' z.2 z.1) λe s' z=>z.1
end L3
end
section
namespace L3
open PySem PySem.Builtin PySem.Builtin.Str PySem.StrLaws
noncomputable def jN(c:Nat):Nat->List Nat->List Nat|_,[]=>[]|a,x::r=>if x=c then a::jN c (a+1) r else jN c (a+1) r
noncomputable def fC(c:Nat):List Nat->List (List Nat)|[]=>[[]]|x::r=>if x=c then[]::fC c r else match fC c r with|[]=>[[x]]|w::ws=>(x::w)::ws
theorem ll(c:Nat)(l:List Nat):∃w ws,fC c l=w::ws:=by
 cases l with
  |nil=>exact⟨_,_,rfl⟩
  |cons x r=>
   rw[fC];split;·exact⟨_,_,rfl⟩
   ·split<;>exact⟨_,_,rfl⟩
theorem pN(x:Str)(c hi limit:Nat)(hh:hi=x.length)(hl:hi<limit):∀(m lo:Nat)(st:Array Nat×Nat),lo+m=hi+1->st.1.size<=lo->st.2<=lo->(forIn (m:=Id) (List.range' lo m) st (occBody x ⟨#[c]⟩ hi limit)).run.1.toList=st.1.toList++jN c lo (x.cps.toList.drop lo)
 |0,lo,st,h,h1,h2=>by have :x.cps.toList.drop lo=[]:=xu (by have :x.length=x.cps.toList.length:=(by simp[Str.length]);lia);rw[this];simp[jN]
 |m+1,lo,st,h,h1,h2=>by
  rw[List.range'_succ,List.forIn_cons];have one:=subAt_one x c lo;have d:x.length=x.cps.toList.length:=by simp[Str.length]
  by_cases a:lo<x.cps.toList.length
  ·have hd:x.cps.toList.drop lo=x.cps.toList[lo]::x.cps.toList.drop (lo+1):=AU a;rw[hd,jN];unfold occBody;by_cases hc:x.cps.toList[lo]=c;·have q:=one.mpr (by rw[cN a,hc]);rw[if_pos ⟨⟨⟨by lia,h2⟩,by rw[hh];exact q.1⟩,q.2⟩,if_pos hc];show(forIn (m:=Id) (List.range' (lo+1) m) (st.1.push lo,lo+1) (occBody x ⟨#[c]⟩ hi limit)).run.1.toList=_;rw[pN x c hi limit hh hl m (lo+1) (st.1.push lo,lo+1) (by lia) (by simp;lia) (bB _)];simp
   ·have q:¬((((st.1.size<limit/\st.2<=lo)/\lo+(⟨#[c]⟩:Str).length<=hi)/\subAt x ⟨#[c]⟩ lo=true)):=λz=>by have :=one.mp ⟨by rw[<-hh];exact z.1.2,z.2⟩;rw[cN a]at this;exact hc (Option.some.inj this)
    rw[if_neg q,if_neg hc];show(forIn (m:=Id) (List.range' (lo+1) m) (st.1,st.2) (occBody x ⟨#[c]⟩ hi limit)).run.1.toList=_;rw[pN x c hi limit hh hl m (lo+1) (st.1,st.2) (by lia) (by show st.1.size<=lo+1;lia) (by show st.2<=lo+1;lia)]
  ·have hd:x.cps.toList.drop lo=[]:=xu (by lia);rw[hd,jN];unfold occBody;have q:¬((((st.1.size<limit/\st.2<=lo)/\lo+(⟨#[c]⟩:Str).length<=hi)/\subAt x ⟨#[c]⟩ lo=true)):=λz=>by have h3:(⟨#[c]⟩:Str).length=1:=rfl;have :=z.1.2;lia
   rw[if_neg q];show(forIn (m:=Id) (List.range' (lo+1) m) (st.1,st.2) (occBody x ⟨#[c]⟩ hi limit)).run.1.toList=_;rw[pN x c hi limit hh hl m (lo+1) (st.1,st.2) (by lia) (by show st.1.size<=lo+1;lia) (by show st.2<=lo+1;lia)];have b:x.cps.toList.drop (lo+1)=[]:=xu (by lia);rw[b,jN]
theorem pk(x:Str)(c:Nat):occurrences x ⟨#[c]⟩ 0 x.length (x.length+1)=jN c 0 x.cps.toList:=by rw[occ_eq];have :=pN x c x.length (x.length+1) rfl (Nat.lt_succ_self _) (x.length+1) 0 (#[],0) (by lia) (by simp) (bB _);simpa using this
theorem Aq(x:Str)(i j:Nat):strSub x i j=⟨((x.cps.toList.drop i).take (j-i)).toArray⟩:=by apply PySem.Str.ext';apply Array.ext';rw[strSub_toList]
noncomputable def AG(pre:List Nat):List (List Nat)->List (List Nat)|[]=>[]|w::ws=>(pre++w)::ws
theorem lS(x:Str)(c:Nat):∀(l pre:List Nat)(a b:Nat),x.cps.toList.drop a=pre++l->b=a+pre.length->c∉pre->partsFrom x 1 a (jN c b l)=(AG pre (fC c l)).map λw:List Nat=>(⟨w.toArray⟩:Str)
 |[],pre,a,b,hd,hb,hc=>by
  have g:x.length=x.cps.toList.length:=by simp[Str.length]
  rw[jN,partsFrom,fC,Aq];rw[eY]at hd;have hl:pre.length<=x.length-a:=by rw[<-hd,dJ];lia
  rw[hd,nM hl];simp[AG]
 |y::l,pre,a,b,hd,hb,hc=>by
  rw[jN,fC];by_cases d:y=c
  ·rw[if_pos d,if_pos d,partsFrom,Aq,hd,hb];have f:(pre++y::l).take (a+pre.length-a)=pre:=by rw[show a+pre.length-a=pre.length by lia,List.take_left'];rfl
   rw[f];have h3:x.cps.toList.drop (a+pre.length+1)=[]++l:=by rw[show a+pre.length+1=a+(pre.length+1)by lia,<-List.drop_drop,hd];simp
   rw[lS x c l [] (a+pre.length+1) (a+pre.length+1) h3 (by simp) (by simp)];obtain⟨w,ws,e⟩:=ll c l;rw[e];simp[AG]
  ·rw[if_neg d,if_neg d];rw[lS x c l (pre++[y]) a (b+1) (by rw[hd];simp) (by simp;lia) (by simp;exact⟨hc,λz=>d z.symm⟩)];obtain⟨w,ws,e⟩:=ll c l;rw[e];simp[AG]
theorem wq(x:Str)(c:Nat):partsBetween x (occurrences x ⟨#[c]⟩ 0 x.length (x.length+1)) 1=(fC c x.cps.toList).map λw:List Nat=>(⟨w.toArray⟩:Str):=by rw[partsBetween_eq,pk,lS x c x.cps.toList [] 0 0 (by simp) rfl (by simp)];obtain⟨w,ws,e⟩:=ll c x.cps.toList;rw[e];simp[AG]
noncomputable def fY(c:Nat)(z:List Nat)(l:List Nat):List Nat:=l.flatMap λa=>if a=c then z else[a]
theorem zJ(c:Nat)(z:Str):∀l:List Nat,(Str.join z ((fC c l).map λw:List Nat=>(⟨w.toArray⟩:Str))).cps.toList=fY c z.cps.toList l
 |[]=>by simp[fC,Str.join,fY]
 |a::l=>by
  have b:=zJ c z l;obtain⟨w,ws,e⟩:=ll c l;rw[fC];have d:fY c z.cps.toList (a::l)=(if a=c then z.cps.toList else[a])++fY c z.cps.toList l:=by simp[fY]
  rw[d];by_cases ha:a=c;·rw[if_pos ha,if_pos ha,<-b,e];simp[Str.join,PySem.Str.cps_append]
  ·rw[if_neg ha,if_neg ha,<-b,e];cases ws with|nil=>simp[Str.join]|cons u us=>simp[Str.join,PySem.Str.cps_append]
theorem Ab{c:Nat}:∀{l:List Nat},jN c 0 l=[]\/c∉l->c∉l
 |l, .inr h=>h
 |l, .inl h=>by
  have e:∀(l:List Nat)(a:Nat),jN c a l=[]->c∉l:=λl=>by
   induction l with
    |nil=>intro a _;simp
    |cons x r d=>
     intro a h;rw[jN]at h;split at h;·cases h
     ·rename_i b;have :=d (a+1) h;simp;exact⟨λz=>b z.symm,this⟩
  exact e l 0 h
theorem vU{c:Nat}{z:List Nat}:∀{l:List Nat},c∉l->fY c z l=l
 |[],_=>rfl
 |a::l,h=>by
  have h:¬c=a/\c∉l:=by simpa using h
  have b:=vU (z:=z) h.2;unfold fY at b⊢;rw[nX,b,if_neg λe=>h.1 e.symm];rfl
theorem replace_one(x z:Str)(c:Nat):(Txt.replace x ⟨#[c]⟩ z).cps.toList=fY c z.cps.toList x.cps.toList:=by
 unfold Txt.replace;rw[pk];have h1:(((⟨#[c]⟩:Str).length==0)&&(z.length==0))=false:=by rw[show(⟨#[c]⟩:Str).length=1 from rfl];rfl
 rw[h1,Bool.or_false];split;·rename_i h;have h:jN c 0 x.cps.toList=[]:=List.isEmpty_iff.mp h;rw[vU (Ab (.inl h))]
 ·rw[glued_eq_join,show(⟨#[c]⟩:Str).length=1 from rfl];have :=wq x c;rw[pk]at this;rw[this];exact zJ c z _
theorem lV{c:Nat}:∀{l:List Nat},c∉l->fC c l=[l]
 |[],_=>rfl
 |a::l,h=>by
  have h:¬c=a/\c∉l:=by simpa using h
  rw[fC,if_neg λe=>h.1 e.symm,lV h.2]
noncomputable def sg(a:Nat):List Nat:=if a=40 then[32,40,32]else if a=41 then[32,41,32]else if a=10 then[32]else[a]
noncomputable def bL(l:List Nat):List (List Nat):=(fC 32 (l.flatMap sg)).filter λw=>!w.isEmpty
theorem mL(c:Nat)(z a b:List Nat):fY c z (a++b)=fY c z a++fY c z b:=List.flatMap_append
theorem XO:∀l:List Nat,fY 10 [32] (fY 41 [32,41,32] (fY 40 [32,40,32] l))=l.flatMap sg
 |[]=>rfl
 |a::l=>by
  have e:fY 40 [32,40,32] (a::l)=(if a=40 then[32,40,32]else[a])++fY 40 [32,40,32] l:=by simp[fY]
  rw[e,mL,mL,XO l,nX];congr 1;unfold sg;by_cases h1:a=40;·subst h1;rfl
  ·rw[if_neg h1,if_neg h1];by_cases h2:a=41;·subst h2;rfl
   ·rw[if_neg h2];by_cases h3:a=10;·subst h3;rfl
    ·rw[if_neg h3];simp[fY,h2,h3]
theorem C_:∀{r t:List Nat},32∉r->fC 32 (r++32::t)=r::fC 32 t
 |[],t,_=>by rw[jh,fC,if_pos rfl]
 |a::r,t,h=>by
  have h:¬32=a/\32∉r:=by simpa using h
  rw[List.cons_append,fC,if_neg λe=>h.1 e.symm,C_ h.2]
noncomputable def brk(c:Nat):Bool:=c==32||c==10||c==40||c==41
end L3
end
section
namespace L3
open PySem PySem.Spec PyProof.Rows L2 KM
section
variable{X:Cx}
noncomputable def LD(X:Cx)(e:Expr)(t:TE):Prop:=∀(pins:List (Addr×Obj))(s:Shared)(σ:L2.St)(H:Hp)(Q:VK),Inv X pins σ H s->0<s.toks->t σ H Q->wpAny (model X.prog X.w) X.A (eval e X.env) (EP X pins σ Q) X.xe s
noncomputable def L6(X:Cx)(st:Stmt)(t:TS):Prop:=∀(pins:List (Addr×Obj))(s:Shared)(σ:L2.St)(H:Hp)(D:Ends),Inv X pins σ H s->0<s.toks->t D σ H->wpAny (model X.prog X.w) X.A (exec st X.env) (SP X pins D) X.xe s
noncomputable def lA(X:Cx)(st:List Stmt)(t:TS):Prop:=∀(pins:List (Addr×Obj))(s:Shared)(σ:L2.St)(H:Hp)(D:Ends),Inv X pins σ H s->0<s.toks->t D σ H->wpAny (model X.prog X.w) X.A (execs st X.env) (SP X pins D) X.xe s
noncomputable def W3(X:Cx)(st:Stmt)(t:TS):Prop:=∀(pins:List (Addr×Obj))(s:Shared)(σ:L2.St)(H:Hp)(D:Ends),Inv X pins σ H s->t D σ H->wpAny (model X.prog X.w) X.A (exec st X.env) (λf s'=>SP X pins D f s'/\0<s'.toks) X.xe s
variable{e:Expr}{es:List Expr}{te:TE}{st:Stmt}{rest:List Stmt}{t u:TS}{pos:Pos}
theorem Z5(h:PE X e te):LD X e te:=λpins s σ H Q I _ q=>h pins s σ H Q I q
theorem B_(h:PS X st t):L6 X st t:=λpins s σ H D I _ q=>h pins s σ H D I q
theorem eK(h1:L6 X st t)(h2:lA X rest u):lA X (st::rest) (aQ t u):=by intro pins s σ H D I a h;refine wpAny_execs_cons (My a (h1 pins s σ H {D with nx:=u D} I a h) λf s1 c q=>?_);cases f with|next=>obtain⟨d,H',b,q⟩:=q;exact h2 pins s1 d H' D b c q|ret v=>exact q|brk=>exact q|cont=>exact q
theorem zy(h1:L6 X st t):lA X [st] t:=by intro pins s σ H D I a h;refine wpAny_execs_cons (bR (h1 pins s σ H D I a h) λf s1 q=>?_);cases f with|next=>exact wpAny_execs_nil q|ret v=>exact q|brk=>exact q|cont=>exact q
theorem DR{i:Nat}{x:Str}{pos':Pos}(d:X.N.Nodup)(hi:X.N[i]?=some x)(l:Loc X.env.scope x)(f:LD X e te)(k:swapsWith e (some (.Name x pos')) pos.line X.env=pure false:=by rfl)(g:X.fn x=true\/X.env.scope.names.lookup x=some .local:=by first|exact .inl rfl|exact .inr rfl|assumption):L6 X (.Assign [.Name x pos'] e pos) (yx te (il i)):=by intro pins s σ H D I j h;refine wpAny_Assign_Name (bR (f pins s σ H _ I j h) λv s1 o=>?_) k;obtain⟨y,a,b,n,m⟩:=o;exact iC b d hi l n (λs2 c=>⟨_,a,c,m⟩) g
end
structure U1(P:Program)(w:World)(K:PySem.W.Frag)(mg:Str->Option Value)(base:Heap)(CX:nU)(k:Nat)(f:Addr)(fd:FuncData)(ps:List Str)(sp:Sp):Prop where
 len:∀vs H Q E,sp vs H Q E->vs.length=ps.length
 run:∀(A:Around)(outer:List Env)(s:Shared)(H:Hp)(args:Args)(us:List Value)(vs:List V)(Q:VK)(E:XK),0<s.toks->cV k A->Az P w K mg base A outer s H->BindsTo s fd args (ps.zip us)->Vals vs us->sp vs H Q E->codeAny (model P w) A (.call (.ref f) args) (CR CX A.handled outer P w H s Q E) s
noncomputable def wI(P:Program)(w:World)(K:PySem.W.Frag)(mg:Str->Option Value)(CX:nU)(x:Str)(k:Nat)(ps:List Str)(sp:Sp):Prop:=∃f fd,(∀base,U1 P w K mg base CX k f fd ps sp)/\mg x=some (.ref f)/\PySem.W.keepIn K (.ref f)=true/\Binds K fd ps []
theorem lA.DT{X:Cx}{st:List Stmt}{t:TS}(h:lA X.DT st t):lA X st t:=λpins s σ H D I k hw=>fk (h pins s σ H D (I.lJ _) k hw) (λ_ _ q=>q.ei) λ_ _ z=>False.elim z
theorem Df.UP{P:Program}{w:World}{K:PySem.W.Frag}{mg:Str->Option Value}{CX:nU}{x:Str}{st:Stmt}{N ps:List Str}{k:Nat}{sp:Sp}(D:Df K mg x st ps)(S:aJ N ps (aq st))(len:∀vs H Q E,sp vs H Q E->vs.length=ps.length)(h:∀(base:Heap)(f:Addr)(cH:Value)(A:Around)(outer:List Env)(s:Shared)(H:Hp)(vs:List V)(Q:VK)(E:XK),cV k (A.deeper (envOfC x (aq st) s.heap.objs.size f cH))->sp vs H Q E->∃t,lA (d_ CX P w K mg base N x (aq st) f cH A outer s H E) (bN st) t/\t {nx:=λ_ H'=>Q .bU H',rt:=Q} (start N vs) H):wI P w K mg CX x (k+1) ps sp:=by
 obtain⟨f,fd,F,m,b⟩:=D;refine⟨f,fd,λbase=>?_,m,F.kp,b⟩;have h:=h base f;obtain⟨oc,od,kV,doc,pm,an,cH,ct,Ge,rfl,M,z⟩:=F.ex;refine⟨len,λA outer s H args us vs Q E B l c hb r p=>?_⟩;have hl:=len _ _ _ _ p;have KX:K.In s.heap:=c.mod.FE.keeps λb o e=>(c.bs b o e).1;have L:s.heap.NoLimit:=c.mod.nolimit.keeps λb o e=>(c.bs b o e).1;have C:∀y∈ps.zip us,(aq st).names.lookup y.1=some .local\/((aq st).names.lookup y.1=some .cell/\((cellsFrom (s.heap.objs.size+1) (aq st).names []).lookup y.1).isSome=true):=λ⟨n,v⟩G=>by
  rcases S.par n (List.of_mem_zip G).1 with q|q;·exact .inl q
  ·exact .inr ⟨q,PySem.W.cellsFrom_some _ _ _ (.inl q)⟩
 refine codeAny_call_function l.depth (KX _ _ M) rfl S.co S.gen rfl (PySem.W.codeRec_of KX z) (hb _ _ _ _ ?_);refine My B (wpAny_newFunctionEnv_cells S.kind C λenv i s1 d=>(⟨i,d⟩:_/\_)) λenv s1 k1 O=>?_;obtain⟨i,d⟩:=O;subst i;refine⟨L.keeps d.toInCall.keep,codeAny_func ?_⟩;obtain⟨t,ht,hq⟩:=h cH A outer s H vs Q E (l.deeper _) p;have I:Inv (d_ CX P w K mg base N x (aq st) f cH A outer s H E) [] (start N vs) H s1:=wy S c hl r d;refine fk (ht [] s1 (start N vs) H _ I k1 hq) (λfl s' a=>?_) λe s' a=>a;have fin:∀{g:L2.St}{H':Hp}{v:V}{u:Value},Inv (d_ CX P w K mg base N x (aq st) f cH A outer s H E) [] g H' s'->RelV v u->Q v H'->CE outer P w H s Q u s':=λ{g H' v u}J j q=>⟨v,H',J.os,J.bare,J.base,J.cI,j,q⟩;cases fl with|ret u=>obtain⟨v,g,H',J,j,q⟩:=a;exact fin J j q|next=>obtain⟨g,H',J,q⟩:=a;exact fin (v:=V.bU) (u:=Value.none) J rfl q|brk=>obtain⟨_,_,_,q⟩:=a;exact False.elim q|cont=>obtain⟨_,_,_,q⟩:=a;exact False.elim q
theorem Df.okP{P:Program}{w:World}{K:PySem.W.Frag}{mg:Str->Option Value}{x:Str}{st:Stmt}{N ps:List Str}{k:Nat}{sp:Sp}(D:Df K mg x st ps)(S:aJ N ps (aq st))(len:∀vs H Q E,sp vs H Q E->vs.length=ps.length)(a:∀(base:Heap)(f:Addr)(cH:Value)(A:Around)(outer:List Env)(s:Shared)(H:Hp)(vs:List V)(Q:VK)(E:XK),cV k (A.deeper (envOfC x (aq st) s.heap.objs.size f cH))->sp vs H Q E->∃t,lA (d_ cR P w K mg base N x (aq st) f cH A outer s H E).DT (bN st) t/\t {nx:=λ_ H'=>Q .bU H',rt:=Q} (start N vs) H):wI P w K mg cR x (k+1) ps sp:=D.UP S len λbase f cH A outer s H vs Q E b h=>let⟨t,ht,q⟩:=a base f cH A outer s H vs Q E b h;⟨t,ht.DT,q⟩
theorem Sr{X:Cx}{CX:nU}{x:Str}{k:Nat}{ps:List Str}{sp:Sp}{E:XK}{e:Expr}{es:List Expr}{t:TA}{p d:Pos}(F:wI X.prog X.w X.K X.mg CX x k ps sp)(v:cV k X.A)(l:Gl X x)(w:Passes CX X E)(ha:PA X (e::es) t)(i:(x==("__debug__":Str))=false:=by decide)(j:starEach (e::es) X.env=(false,eval e X.env)::starEach es X.env:=by rfl)(o:(backTo d (starEach es X.env)).any (·.1)=false:=by rfl)(hc:X.calm=true:=by rfl):LD X (.Call (.Name x p) (e::es) [] d) (mV sp [] E t):=by
 obtain⟨f,fd,F,m,kp,b⟩:=F;intro pins s σ H Q I n h;refine wpAny_Call_Name_kw (gy I l m ?_ i);refine PySem.W.callWith_K (h₀:=X.base) I.ok.mod.FE kp (My n (ha d pins s σ H _ I h) λus s1 k1⟨vs,c,a,r,q⟩=>⟨a.ic,?_⟩) j o;have q:sp (vs++[]) c Q E:=q;rw[eY]at q;have hl:us.length=ps.length:=by rw[<-r.length];exact(F (zF s1.heap c (jn X.stack))).len _ _ _ _ q
 have g:=b s1 us a.ic (by rw[eY];exact hl);rw[eY]at g;refine wpAny_call (codeAny_mono ((F _).run X.A X.stack s1 c ⟨us,[]⟩ us vs Q E k1 v (LM a hc) g r q) λr s' hq=>?_);cases r with|error e=>exact w pins σ c s1 e s' a hq|ok fl=>cases fl with|ret u=>exact a.after hq|next=>exact False.elim hq|brk=>exact False.elim hq|cont=>exact False.elim hq
noncomputable def YM(X:Cx)(es:List Expr)(t:TA):Prop:=∀(a:Pos)(pins:List (Addr×Obj))(s:Shared)(σ:L2.St)(H:Hp)(Q:List V->Hp->Prop),Inv X pins σ H s->t σ H Q->wpAny (model X.prog X.w) X.A (spliced (backTo a (starEach es X.env))) (λus s'=>AP X pins σ Q us s'/\0<s'.toks) X.xe s
theorem kg{X:Cx}{e:Expr}{es:List Expr}{b:TE}{t:TA}(ha:PE X e b)(i:YM X es t)(j:starEach (e::es) X.env=(false,eval e X.env)::starEach es X.env:=by rfl):YM X (e::es) (cP b t):=by intro a pins s σ H Q I h;rw[j];show wpAny _ _ (spliced ((false,eval e X.env)::backTo a (starEach es X.env))) _ _ s;refine Calls.spliced_cons (bR (ha pins s σ H _ I h) λu s1 p=>?_);obtain⟨x,c,f,n,l⟩:=p;exact bR (i a pins s1 σ c _ f l) λus s2⟨⟨xs,d,g,o,m⟩,k⟩=>⟨⟨x::xs,d,g, .cons n o,m⟩,k⟩
theorem FA{X:Cx}{x:Str}{j:Nat}{p:Pos}(a:starEach [.Constant (.str x) j p] X.env=[(false,eval (.Constant (.str x) j p) X.env)]:=by rfl):YM X [.Constant (.str x) j p] (cP (tC (.str x)) iB):=by intro b pins s σ H Q I h;rw[a];show wpAny _ _ (spliced ((false,eval (.Constant (.str x) j p) X.env)::[])) _ _ s;exact Calls.spliced_cons (Calls.Constant_str (Calls.spliced_nil ⟨⟨[.str x],H,I.tok _, .cons ⟨_,rfl⟩ .nil,h⟩,Nat.succ_pos _⟩))
theorem Lr{X:Cx}{CX:nU}{x:Str}{k:Nat}{ps:List Str}{sp:Sp}{E:XK}{e:Expr}{es:List Expr}{t:TA}{p d:Pos}(F:wI X.prog X.w X.K X.mg CX x k ps sp)(o:cV k X.A)(l:Gl X x)(v:Passes CX X E)(ha:YM X (e::es) t)(i:(x==("__debug__":Str))=false:=by decide)(j:starEach (e::es) X.env=(false,eval e X.env)::starEach es X.env:=by rfl)(n:(backTo d (starEach es X.env)).any (·.1)=false:=by rfl)(hc:X.calm=true:=by rfl):PE X (.Call (.Name x p) (e::es) [] d) (mV sp [] E t):=by
 obtain⟨f,fd,F,m,kp,b⟩:=F;intro pins s σ H Q I h;refine wpAny_Call_Name_kw (gy I l m ?_ i);refine PySem.W.callWith_K (h₀:=X.base) I.ok.mod.FE kp (bR (ha d pins s σ H _ I h) λus s1⟨⟨vs,c,a,r,q⟩,k1⟩=>⟨a.ic,?_⟩) j n;have q:sp (vs++[]) c Q E:=q;rw[eY]at q;have hl:us.length=ps.length:=by rw[<-r.length];exact(F (zF s1.heap c (jn X.stack))).len _ _ _ _ q
 have g:=b s1 us a.ic (by rw[eY];exact hl);rw[eY]at g;refine wpAny_call (codeAny_mono ((F _).run X.A X.stack s1 c ⟨us,[]⟩ us vs Q E k1 o (LM a hc) g r q) λr s' hq=>?_);cases r with|error e=>exact v pins σ c s1 e s' a hq|ok fl=>cases fl with|ret u=>exact a.after hq|next=>exact False.elim hq|brk=>exact False.elim hq|cont=>exact False.elim hq
theorem wa{X:Cx}:fA X (.type "str") (λxs H Q=>∃i:Int,xs=[.int i]/\i.natAbs.log2<1920/\Q (.str (Str.ofString (toString i))) H):=by intro pins s σ H xs us Q I r h;obtain⟨i,rfl,hi,q⟩:=h;obtain⟨u,rfl,t,rfl⟩:=vals1 r;exact PySem.P.str_of_int hi ⟨.str _,H,I.tok _,⟨_,rfl⟩,q⟩
theorem lH{X:Cx}:fA X (.type "int") (λxs H Q=>∃(z:Str)(n:Int),xs=[.str z]/\PySem.intText? z=some n/\z.length<=640/\Q (.int n) H):=by intro pins s σ H xs us Q I r h;obtain⟨z,n,rfl,hn,hl,q⟩:=h;obtain⟨u,rfl,t,rfl⟩:=vals1 r;exact PySem.W.KIN.call_text hn hl ⟨.int n,H,I.tok _,⟨_,rfl⟩,q⟩
section
variable{X:Cx}
noncomputable def V2(y z:Str)(to:TE):TE:=λσ H Q=>to σ H λx b=>∃a:Str,x= .str a/\a.length+(a.length+1)*z.length<=16777216/\Q (.str (Txt.replace a y z)) b
theorem tf{o:Expr}{apos ee e f:Pos}{c d:Nat}{y z:Str}{to:TE}(j:LD X o to)(l:(y==z)=false)(m:M2 X o "replace" apos (.Constant (.str y) c e) (.Constant (.str z) d f) ee):LD X (.Call (.Attribute o "replace" apos) [.Constant (.str y) c e, .Constant (.str z) d f] [] ee) (V2 y z to):=by intro pins s σ H Q I a h;refine wpAny_Call_method m.base m.UG m.line PySem.F.plainAttrs_str PySem.F.slot_str_replace PySem.F.type_str_replace (My a (j pins s σ H _ I a h) λu s1 k1 w=>?_);obtain⟨x,g,i,r,v,ex,hb,p⟩:=w;subst ex;obtain⟨t,rfl⟩:=(show∃t,u=Value.str v t from r);refine⟨typeIs_str _ _ _,(λb q=>nomatch q),?_⟩;rw[m.trees];refine Calls.callWith_builtin rfl (Calls.evalArgs_plain (Calls.spliced_cons (Calls.Constant_str (Calls.spliced_cons (Calls.Constant_str (Calls.spliced_nil ?_))))));have n:s1.toks≠0:=Nat.pos_iff_ne_zero.mp k1;refine SC.replace n (Nat.succ_ne_zero _) (eH (Nat.lt_succ_self _)) l hb λt' k=>⟨.str _,g,?_,⟨_,rfl⟩,p⟩;exact(i.tok _).tok _
noncomputable def Sj:V->List V->Hp->VK->Prop:=λx vs H Q=>∃(z:Str)(c:Nat),x= .str z/\vs=[.str ⟨#[c]⟩]/\c<256/\z.length<sizeLine/\∀p,H p=none->Q (.ref p) (upd H p (.lst ((fC c z.cps.toList).map λw:List Nat=>V.str ⟨w.toArray⟩)))
theorem qm(c:Nat):∀l:List Nat,(fC c l).length<=l.length+1|[]=>by simp[fC]|a::l=>by have b:=qm c l;obtain⟨w,ws,e⟩:=ll c l;rw[fC,e];rw[e]at b;split<;>simp only[bD]at b⊢<;>lia
theorem wA:∀(ws:List Str)(n:Nat),Vals (ws.map V.str) (strsFrom n ws)|[],_=> .nil|w::ws,n=> .cons ⟨n,rfl⟩ (wA ws (n+1))
theorem Hv{c:Nat}(h:c<256)(z:Str):decide (Builtin.Str.strKind z<Builtin.Str.strKind ⟨#[c]⟩)=false:=by
 have e:Builtin.Str.strKind ⟨#[c]⟩=1:=by unfold Builtin.Str.strKind;rw[if_pos (by simp[h])]
 rw[e];refine decide_eq_false ?_;unfold Builtin.Str.strKind;repeat' split
 all_goals lia
theorem Jq:Zb X "str.split" Sj:=by
 intro pins s σ H x vs v us Q I n m h;obtain⟨z,c,rfl,rfl,hc,o,q⟩:=h;obtain⟨u,rfl,l⟩:=m.one;obtain⟨t,rfl⟩:=(show∃t,v=Value.str z t from n);obtain⟨b,rfl⟩:=(show∃t,u=Value.str ⟨#[c]⟩ t from l);have hl:z.length=z.cps.toList.length:=by simp[Str.length]
 have whole:fC c z.cps.toList=[z.cps.toList]->EP X pins σ Q (.ref s.heap.objs.size) {s with heap:=s.heap.push {cls:= .type "list",data:= .seq [Value.str z t].toArray}}:=λe=>by rw[e]at q;exact⟨.ref s.heap.objs.size,_,I.JJ (t':=s.toks) (its:=[Value.str z t]) (ys:=[V.str ⟨z.cps.toList.toArray⟩]) (.cons ⟨t,by simp⟩ .nil) (dF rfl),rfl,q _ I.fresh⟩
 have k1:=Hv hc z;by_cases d:z.length<1;·have k:z.cps.toList=[]:=List.length_eq_zero_iff.mp (by lia);refine call_meets F.slot_str_split (typeIs_str _ _ _) F.entry_str_split (F.args_str_split_2 _ _) (meets_str_split_cannot_occur z ⟨#[c]⟩ t b (by rw[show(⟨#[c]⟩:Str).length=1 from rfl,decide_eq_true d];rfl)) ?_;exact whole (by rw[k];rfl)
 have f:(decide (z.length<(⟨#[c]⟩:Str).length)||decide (Builtin.Str.strKind z<Builtin.Str.strKind ⟨#[c]⟩))=false:=by rw[k1,Bool.or_false,show(⟨#[c]⟩:Str).length=1 from rfl,decide_eq_false d]
 have j:((⟨#[c]⟩:Str).length==0)=false:=rfl;cases a:(Builtin.Str.occurrences z ⟨#[c]⟩ 0 z.length (z.length+1)).isEmpty with
  |true=>refine call_meets F.slot_str_split (typeIs_str _ _ _) F.entry_str_split (F.args_str_split_2 _ _) (meets_str_split_not_found z ⟨#[c]⟩ t b f j a) ?_;rw[pk]at a;exact whole (lV (Ab (.inl (List.isEmpty_iff.mp a))))
  |false=>
   have g:=wq z c;have hlen:(Builtin.Str.partsBetween z (Builtin.Str.occurrences z ⟨#[c]⟩ 0 z.length (z.length+1)) 1).length<=sizeLine:=by rw[g,bT];have :=qm c z.cps.toList;lia
   refine call_meets F.slot_str_split (typeIs_str _ _ _) F.entry_str_split (F.args_str_split_2 _ _) (meets_str_split_sep z ⟨#[c]⟩ t b f j a (by lia) hlen) ?_;rw[show(⟨#[c]⟩:Str).length=1 from rfl,g];have i:=wA ((fC c z.cps.toList).map λw:List Nat=>(⟨w.toArray⟩:Str)) s.toks;rw[List.map_map]at i;exact⟨.ref s.heap.objs.size,_,I.JJ (ys:=(fC c z.cps.toList).map λw:List Nat=>V.str ⟨w.toArray⟩) i (by rw[bT];have :=qm c z.cps.toList;lia),rfl,q _ I.fresh⟩
end
end L3
end
section
namespace K54
open PySem L2 L3 KM PyProof.Rows
seal L2.PE L2.PS L2.jx L2.PT L2.PW L2.PA L2.PG L2.G0 L2.PI L2.PC L2.PO L2.G3 L2.PK L3.Ba L3.LD L3.L6 L3.lA L3.W3
variable{P:Program}{w:World}{K:PySem.W.Frag}{mg:Str->Option Value}{base:Heap}{t:y_}
noncomputable def tx(l:List Nat):Str:=⟨l.toArray⟩
theorem Ov(z:Str):tx z.cps.toList=z:=by cases z;rfl
theorem Cf(l:List Nat):(tx l).length=l.length:=rfl
theorem str_len(z:Str):z.length=z.cps.toList.length:=by simp[Str.length]
def Ea:Sp:=λvs H Q _=>∃z:Str,vs=[.str z]/\z.length<=100000/\∀(p:Addr)(H':Hp),H p=none->aD H H'->H' p=some (.lst ((bL z.cps.toList).map λw=>V.str (tx w)))->Q (.ref p) H'
theorem ue{c:Nat}{z:List Nat}(b:z.length<=3)(h1:1<=z.length):∀l:List Nat,(fY c z l).length<=3*l.length
 |[]=>by simp[fY]
 |a::l=>by
  have d:=ue (c:=c) b h1 l;unfold fY at d⊢;rw[nX,cx,bD];have :(if a=c then z else[a]).length<=3:=by
   split;·exact b
   ·simp
  omega
theorem mG:aJ ["text","spaced"] ["text"] (aq fP):=⟨rfl,rfl,rfl,by decide+kernel,rfl,by decide+kernel,by decide+kernel⟩
theorem Bd(D:Df K mg "words_of" fP ["text"])(M:Mg mg t):wI P w K mg cR "words_of" 2 ["text"] Ea:=by
 refine D.okP mG (λvs H Q E h=>?_) (λbase f cH A outer s H vs Q E Z h=>?_);·obtain⟨z,rfl,_⟩:=h;rfl
 obtain⟨z,rfl,hz,q⟩:=h;have hl:=str_len z;refine⟨_,(eK (DR (i:=1) mG.nd rfl (dh rfl) (tf (tf (tf (Z5 (pv 0)) (by decide+kernel) ⟨rfl,rfl,rfl,rfl⟩) (by decide+kernel) ⟨rfl,rfl,rfl,rfl⟩) (by decide+kernel) ⟨rfl,rfl,rfl,rfl⟩)) (zy (B_ (aB (ky (N':=["word"]) (own:=1) (fr:=[]) rfl (jF (N:=["text","spaced"]) (sc:=aq fP) rfl rfl rfl (by decide+kernel)) (yg (mB PySem.F.plainAttrs_str PySem.F.slot_str_split PySem.F.type_str_split Jq (pv 1) (aa ai af))) (fW (by decide)) (λ_ _ _=>(cL (i:=0) (show List.Nodup (["word"]:List Str)by decide+kernel) rfl (Or.inl rfl))) (λ_ _ _=>(yG (ar OP (pv 0) ai (az _)))) (λ_ _ _=>(pv 0))))))),?_⟩;try dsimp only[j6,X]
 refine vn ?_;intro _ _;have I:Str.ofString "("=⟨#[40]⟩:=by decide+kernel
 have J:Str.ofString ")"=⟨#[41]⟩:=by decide+kernel
 have L:Str.ofString "\n"=⟨#[10]⟩:=by decide+kernel
 have x:Str.ofString " "=⟨#[32]⟩:=by decide+kernel
 have l1:(Str.ofString " ( ").length=3:=by decide+kernel
 have l2:(Str.ofString " ) ").length=3:=by decide+kernel
 have F:(Str.ofString " ( ").cps.toList=[32,40,32]:=by decide+kernel
 have G:(Str.ofString " ) ").cps.toList=[32,41,32]:=by decide+kernel
 have n:=replace_one z (Str.ofString " ( ") 40;have u:=replace_one (Txt.replace z "(" " ( ") (Str.ofString " ) ") 41;have o:=replace_one (Txt.replace (Txt.replace z "(" " ( ") ")" " ) ") (Str.ofString " ") 10;rw[<-I,F]at n;rw[<-J,G,n]at u;rw[<-L,u,show(Str.ofString " ").cps.toList=[32]by rw[x],XO]at o;have B:(Txt.replace z "(" " ( ").length<=3*z.length:=by rw[str_len,n,hl];exact ue (by decide) (by decide) _
 have W:(Txt.replace (Txt.replace z "(" " ( ") ")" " ) ").length<=3*(3*z.length):=by
  have :=ue (c:=41) (z:=[32,41,32]) (by decide) (by decide) (fY 40 [32,40,32] z.cps.toList);rw[str_len,u];have h2:(fY 40 [32,40,32] z.cps.toList).length<=3*z.length:=by rw[<-n,<-str_len];exact B
  omega
 have C:(Txt.replace (Txt.replace (Txt.replace z "(" " ( ") ")" " ) ") "\n" " ").length<=3*z.length:=by
  rw[str_len,o,hl];have :∀l:List Nat,(l.flatMap sg).length<=3*l.length:=λl=>by
   induction l with
    |nil=>simp
    |cons a l ih=>
     rw[nX,cx,bD];have :(sg a).length<=3:=by
      unfold sg;repeat' split
      all_goals simp
     omega
  exact this _
 have S:(Str.ofString " ").length=1:=by decide+kernel
 refine⟨_,rfl,z,rfl,(by rw[l1];omega),_,rfl,(by rw[l2];omega),_,rfl,(by rw[S];omega),?_⟩;generalize Txt.replace (Txt.replace (Txt.replace z "(" " ( ") ")" " ) ") "\n" " "=T at o C⊢;have Y:=str_len T;refine⟨_,rfl,rfl,T,32,rfl,(by rw[x]),(by decide),(by rw[sizeLine_eq];omega),λm R=>⟨m,rfl,⟨_,bj.of ag⟩,λp j=>?_⟩⟩;have v:=ak R (.lst ((fC 32 T.cps.toList).map λw:List Nat=>V.str ⟨w.toArray⟩));have g:(upd H m (.lst ((fC 32 T.cps.toList).map λw:List Nat=>V.str ⟨w.toArray⟩))) m=some (.lst ((fC 32 T.cps.toList).map λw:List Nat=>V.str (tx w))):=ag;generalize upd H m (.lst ((fC 32 T.cps.toList).map λw:List Nat=>V.str ⟨w.toArray⟩))=y at v g j⊢;have hlen:=qm 32 T.cps.toList;refine JK (fC 32 T.cps.toList).length (λi d b=>d=(((fC 32 T.cps.toList).take i).filter λw=>!w.isEmpty).map (λw=>V.str (tx w))/\b p=some (.lst d)/\aD y b) ⟨by simp,ag,ak j _⟩ ?_ ?_
 ·rintro i d b hi⟨rfl,h2,s2⟩;have hw:((fC 32 T.cps.toList).map λw:List Nat=>V.str (tx w))[i]?=some (.str (tx (fC 32 T.cps.toList)[i])):=by simp[hi]
  refine⟨⟨_,_,bj.of (s2 _ _ g),hw⟩,?_⟩;rintro x' U⟨rfl,k⟩;have k:=k _ (bj.of (s2 _ _ g));rw[hw]at k;cases k;have O:((((fC 32 T.cps.toList).take i).filter λw=>!w.isEmpty).map (λw=>V.str (tx w))).length<sizeLine:=by rw[bT,sizeLine_eq];have :=List.length_filter_le (λw:List Nat=>!w.isEmpty) ((fC 32 T.cps.toList).take i);rw[dU]at this;omega
  have tk:(fC 32 T.cps.toList).take (i+1)=(fC 32 T.cps.toList).take i++[(fC 32 T.cps.toList)[i]]:=by rw[List.take_add_one,cN hi];rfl
  refine⟨_,rfl,rfl,_,rfl,?_⟩;refine bz (λc=>?_) (λc=>?_)
  ·refine⟨_,rfl,h2,O,nx hi ⟨?_,ag,gR s2 j⟩⟩;have ne:(fC 32 T.cps.toList)[i].isEmpty=false:=by cases e:(fC 32 T.cps.toList)[i]with|cons a r=>rfl|nil=>rw[e]at c;exact absurd c (by decide+kernel)
   rw[tk,List.filter_append,List.map_append];simp[ne]
  ·refine nx hi ⟨?_,h2,s2⟩;have ne:(fC 32 T.cps.toList)[i].isEmpty=true:=by cases e:(fC 32 T.cps.toList)[i]with|nil=>rfl|cons a r=>refine absurd ?_ c;rw[e];refine(Bool.not_eq_eq_eq_not ..).mpr (decide_eq_false λz=>?_);injection z with z;have :=congrArg Str.length z;exact absurd this (by rw[Cf];simp[show(Str.ofString "").length=0 by decide+kernel])
   rw[tk,List.filter_append,List.map_append];simp[ne]
 ·rintro d b⟨rfl,h2,s2⟩;refine⟨⟨_,bj.of (s2 _ _ g),by rw[bT];exact bB _⟩,?_⟩;rw[List.take_length]at h2;refine q p b (v.free j) (v.trans s2) ?_;rw[h2,bL,o]
end K54
end
section
namespace K54
open PySem L2 L3 KM
seal L2.PE L2.PS L2.jx L2.PT L2.PW L2.PA L2.PG L2.G0 L2.PI L2.PC L2.PO L2.G3 L2.PK L3.Ba
variable{P:Program}{w:World}{K:PySem.W.Frag}{mg:Str->Option Value}{base:Heap}{t:y_}
noncomputable def bg:List (Str×List V):=[("nat",[]),("none",[]),("all",[.str "kind", .str "kind"]),("some",[.str "kind", .str "kind"]),("same",[.str "kind", .str "term", .str "term"]),("var",[]),("fun",[.str "kind", .str "term"]),("app",[.str "term", .str "term"]),("zero",[]),("next",[.str "term"]),("rec",[.str "kind", .str "term", .str "term", .str "term"]),("like",[.str "kind", .str "term"]),("carry",[.str "kind", .str "term", .str "term"]),("never",[.str "kind", .str "term"]),("pair",[.str "kind", .str "term", .str "term"]),("first",[.str "term"]),("second",[.str "term"]),("name",[])]
noncomputable def U4(c:Nat):V:=if c=107 then .str "kind"else .str "term"
noncomputable def OL(r:Str×List V):Bool:=match eL r.1 with| .str s=>decide (s.cps.size<=4)&&if r.1="var"then decide (s="n")else if r.1="name"then decide (s="w")else s.cps.toList.all (λc=>c==107||c==116)&&decide (r.2=s.cps.toList.map U4)|_=>false
theorem Ml:bg.all OL=true:=by decide+kernel
theorem lookup_mem{a:Type}{x:Str}{v:a}:∀{l:List (Str×a)},l.lookup x=some v->(x,v)∈l
 |[],h=>by simp at h
 |(k,u)::l,h=>by
  rw[jg]at h;cases e:x==k with
   |true=>
    rw[e]at h;obtain rfl:x=k:=by simpa using e
    cases h;exact b5
   |false=>rw[e]at h;exact cU _ (lookup_mem h)
theorem lookup_none{a:Type}{x:Str}:∀{l:List (Str×a)},l.lookup x=none->x∉l.map (·.1)
 |[],_=>by simp
 |(k,u)::l,h=>by
  rw[jg]at h;cases e:x==k with
   |true=>rw[e]at h;cases h
   |false=>
    rw[e]at h;have :=lookup_none h;have e:¬x=k:=by simpa using e
    simp only[gQ,List.mem_cons,not_or];exact⟨e,this⟩
inductive Shp(w:Str):Prop where|bU(h1:bg.lookup w=none)(h2:eL w= .bU)|var(h1:bg.lookup w=some [])(h2:w="var")|name(h1:bg.lookup w=some [])(h2:w="name")|Wg(s:Str)(h1:bg.lookup w=some (s.cps.toList.map U4))(h2:eL w= .str s)(h3:w≠"var")(h4:w≠"name")(h5:∀c∈s.cps.toList,c=107\/c=116)(h6:s.cps.size<=4)
theorem L0{tab:List (Key×V)}{w:Str}(h:∀k∈tab.map (·.1),k≠Sum.inr w):lU tab (Sum.inr w:Key)=none:=by cases e:lU tab (Sum.inr w:Key)with|none=>rfl|some v=>exact absurd rfl (h _ (L7 e))
noncomputable def OT(k:Key)(l:List Str):Bool:=match k with| .inr x=>decide (x∈l)| .inl _=>true
theorem shp(w:Str):Shp w:=by
 cases h:bg.lookup w with
  |none=>
   refine .bU h ?_;have nm:=lookup_none h;have sub:∀tab:List (Key×V),(tab.map (·.1)).all (λk=>OT k (bg.map (·.1)))=true->lU tab (Sum.inr w:Key)=none:=λtab ht=>L0 λk l z=>by subst z;have :=List.all_eq_true.mp ht _ l;simp only[OT,decide_eq_true_eq]at this;exact nm this
   have b:=sub UI (by decide+kernel);have c:=sub UB (by decide+kernel);have d:=sub Wm (by decide+kernel);unfold eL;rw[b,c,d];rfl
  |some ds=>
   have m:=lookup_mem h;have g:=List.all_eq_true.mp Ml _ m;unfold OL at g;by_cases a:w="var";·subst a;exact .var (by decide+kernel) rfl
   ·by_cases hn:w="name";·subst hn;exact .name (by decide+kernel) rfl
    ·cases e:eL w with|str s=>rw[e]at g;simp only[a,hn,if_false,bW,List.all_eq_true,Bool.or_eq_true,beq_iff_eq,decide_eq_true_eq]at g;obtain⟨f,i,j⟩:=g;exact .Wg s (by rw[h,j]) e a hn i f|_=>rw[e]at g;simp at g
noncomputable def ik(x:Str):Bool:=decide (x="var")||decide (x="name")
noncomputable def d4(x:Str)(ps:List D):List D:=if ik x=true then[]else ps
def Bz:Sp:=λvs H Q _=>∃(x:Str)(ps:List D)(v:V),vs=[v]/\Rep H (.tup (.str x::ps)) v/\ps.length<=10/\∀(a:Addr)(us:List V)(H':Hp),H a=none->aD H H'->H' a=some (.lst us)->bS H' (d4 x ps) us->Q (.ref a) H'
theorem Bs:aJ ["thing"] ["thing"] (aq jc):=⟨rfl,rfl,rfl,by decide+kernel,rfl,by decide+kernel,by decide+kernel⟩
theorem GA(D:Df K mg "kids_of" jc ["thing"])(M:Mg mg t):da P w K mg cR "kids_of" (1) ["thing"] Bz:=by
 refine D.ok Bs (λvs H Q E h=>?_) (λbase f cH A outer s H vs Q E y h=>?_);·obtain⟨x,ps,v,rfl,_⟩:=h;rfl
 obtain⟨x,ps,v,rfl,r,hl,q⟩:=h;obtain⟨a,us,rfl,ha,C,us,rfl,⟨rfl,B⟩,k⟩:=r;have u:=k.length;have g:zj (V.str x::us) 0=some (.str x):=aG (j:=0) rfl;have e:gG K H a (.str x::us):=gG.of ha;refine⟨_,(ah (aS (L2.PW.pt (dN (ar aN (aZ gV (pv 0) aj (λ_ _=>rfl)) ai (az _)) (dH (ar aN (aZ gV (pv 0) aj (λ_ _=>rfl)) ai (az _))))) (ao (aB (aT af))) aC) (ao (aB (cQ yD rfl M.QF Nh (aa (bI MU (pv 0) (bp aj) bH) af))))),?_⟩;try dsimp only[j6,o]
 refine vn ?_;intro _ _;have leaf:ik x=true->0<=sizeLine/\∀p,H p=none->Q (.ref p) (upd H p (.lst [])):=λc=>⟨fV _,λp b=>q p [] _ b (ak b _) ag (by unfold d4;rw[if_pos c];exact rfl)⟩;refine⟨_,rfl,a,_,_,_,rfl,rfl,e,g,rfl,_,rfl,?_⟩;refine bz (λc=>?_) (λc=>?_);·refine bo ?_;have c:V.str x=V.str "var":=of_decide_eq_true c;cases c;exact leaf rfl
 refine⟨_,rfl,a,_,_,_,rfl,rfl,e,g,rfl,_,rfl,?_⟩;refine bz (λd=>?_) (λd=>?_);·have d:V.str x=V.str "name":=of_decide_eq_true d;cases d;exact leaf (by decide+kernel)
 have n:ik x=false:=by unfold ik;have h1:x≠"var":=λz=>c (by rw[z];decide+kernel);have h2:x≠"name":=λz=>d (by rw[z];decide+kernel);simp[h1,h2]
 have m:d4 x ps=ps:=by unfold d4;rw[n];rfl
 rw[m]at q;have i:eG (V.str x::us) (some 1) none=us:=by have :=vV (V.str x::us) 1;simpa using this
 refine⟨_,rfl,_,rfl,a,_,rfl,e,λp b=>?_,λz=>?_⟩;·rw[i];refine⟨p,us,rfl, .inr (gG.of ag),λl hl=>?_⟩;exact q l us _ ((ak b _).free hl) ((ak b _).trans (ak hl _)) ag (k.mono ((ak b _).trans (ak hl _)))
 ·rw[i]at z;exact absurd (congrArg List.length z) (by simp)
theorem j_{nm:D->Bool}:∀{a:List Nat}{ps:List D},m7 nm a ps=true->a.length=ps.length|[],[],_=>rfl|[],_::_,h=>by simp[m7]at h|_::_,[],h=>by simp[m7]at h|c::a,p::ps,h=>by rw[dP,bW]at h;rw[bD,bD,j_ h.2]
noncomputable def TY(c:Nat):Bool:=!(Builtin.Str.occurrences (Str.ofString "kt") ⟨#[c]⟩ 0 (Str.ofString "kt").length 1).isEmpty
theorem kt1:TY 107=true:=by decide+kernel
theorem kt2:TY 116=true:=by decide+kernel
theorem kt3:TY 110=false:=by decide+kernel
theorem kt4:TY 119=false:=by decide+kernel
theorem gO{nm:D->Bool}{k:Bool}{x:Str}{ps:List D}(h:fz nm k (.tup (.str x::ps))=true):∃s,eL x= .str s/\dB x=k/\m7 nm s.cps.toList ps=true/\s.cps.size<=4/\s.cps.toList.length=ps.length/\(∀c∈s.cps.toList,TY c=!ik x)/\(ik x=false->∀c∈s.cps.toList,c=107\/c=116)/\∃r,bg.lookup x=some r/\r.length=(d4 x ps).length:=by
 have a:∀s,eL x= .str s->dB x=k/\m7 nm s.cps.toList ps=true:=λs e=>by rw[fz,e,bW]at h;exact⟨by simpa using h.1,h.2⟩
 cases shp x with
  |bU h1 h2=>rw[fz,h2]at h;simp at h
  |var h1 h2=>subst h2;obtain⟨k1,k2⟩:=a _ i_;refine⟨_,i_,k1,k2,by decide,j_ k2,λc hc=>?_,λz=>absurd z (by decide+kernel),_,h1,by unfold d4;rw[if_pos (by decide+kernel)];rfl⟩;rw[JZ]at hc;rw[List.mem_singleton.mp hc,kt3];decide+kernel
  |name h1 h2=>subst h2;obtain⟨k1,k2⟩:=a _ jR;refine⟨_,jR,k1,k2,by decide,j_ k2,λc hc=>?_,λz=>absurd z (by decide+kernel),_,h1,by unfold d4;rw[if_pos (by decide+kernel)];rfl⟩;rw[P_]at hc;rw[List.mem_singleton.mp hc,kt4];decide+kernel
  |Wg s h1 h2 h3 h4 h5 h6=>
   obtain⟨k1,k2⟩:=a s h2;have b:ik x=false:=by unfold ik;simp[h3,h4]
   refine⟨s,h2,k1,k2,h6,j_ k2,λc hc=>?_,λ_=>h5,_,h1,?_⟩
   ·rw[b];rcases h5 c hc with z|z<;>rw[z];·exact kt1
    ·exact kt2
   ·unfold d4;rw[b,bT,j_ k2];rfl
end K54
end
section
namespace K54
open PySem L2 L3 KM PyProof.Rows
seal L2.PE L2.PS L2.jx L2.PT L2.PW L2.PA L2.PG L2.G0 L2.PI L2.PC L2.PO L2.G3 L2.PK L3.Ba
variable{P:Program}{w:World}{K:PySem.W.Frag}{mg:Str->Option Value}{base:Heap}{t:y_}
noncomputable def BO:List (Str×V):=[("all", .int 1),("some", .int 1),("fun", .int 1),("rec", .int 0),("carry", .int 0)]
noncomputable def gw(x:Str):V:=(KTD.datumAt x BO).getD .bU
theorem gF(x:Str):∀ws:List Str,Ph (.str x) (ws.map V.str)=decide (x∈ws)
 |[]=>rfl
 |y::ws=>by
  have a:=gF x ws;unfold Ph at a⊢;rw[gQ,List.any_cons,a];show(y==x||decide (x∈ws))=decide (x∈y::ws);by_cases e:y=x;·subst e;simp
  ·have b:¬x=y:=λz=>e z.symm;simp[e,b]
theorem gL:∀ws:List Str,(ws.map V.str).all gA=true|[]=>rfl|y::ws=>by rw[gQ,List.all_cons,gL ws];rfl
theorem vN:∀{ps:List D}{i:Nat}{p:D},ps[i]?=some p->depth p<=aO ps|[],_,_,e=>by simp at e|p::ps,0,_,e=>by simp at e;subst e;simp only[aO];omega|_::ps,i+1,p,e=>by have :=vN (ps:=ps) (i:=i) (by simpa using e);simp only[aO];omega
mutual noncomputable def plc:D->List (List Nat)| .tup (.str x::ps)=>[]::(if ik x=true then[]else U2 0 ps)|_=>[]noncomputable def U2:Nat->List D->List (List Nat)|_,[]=>[]|i,d::ds=>(plc d).map (i::·)++U2 (i+1) ds end
theorem MA{nm:D->Bool}{k:Bool}:∀{d:D},fz nm k d=true->∃x ps,d= .tup (.str x::ps)| .tup (.str x::ps),_=>⟨x,ps,rfl⟩| .tup [],h=>by simp[fz]at h| .tup (.bU::_),h=>by simp[fz]at h| .tup (.bl _::_),h=>by simp[fz]at h| .tup (.int _::_),h=>by simp[fz]at h| .tup (.tup _::_),h=>by simp[fz]at h| .bU,h=>by simp[fz]at h| .bl _,h=>by simp[fz]at h| .int _,h=>by simp[fz]at h| .str _,h=>by simp[fz]at h
theorem Fd{nm:D->Bool}:∀{a:List Nat}{ps:List D}{i:Nat}{p:D},m7 nm a ps=true->(∀c∈a,c=107\/c=116)->ps[i]?=some p->∃k,fz nm k p=true
 |[],[],_,_,_,_,e=>by simp at e
 |[],_::_,_,_,h,_,_=>by simp[m7]at h
 |_::_,[],_,_,h,_,_=>by simp[m7]at h
 |c::a,q::ps,0,p,h,hc,e=>by
  simp at e;subst e;rw[dP,bW]at h;have h1:=h.1;unfold sE at h1;rcases hc c b5 with z|z;·rw[z,if_pos rfl]at h1;exact⟨true,h1⟩
  ·rw[z,if_neg (by decide),if_pos rfl]at h1;exact⟨false,h1⟩
 |c::a,q::ps,i+1,p,h,hc,e=>by rw[dP,bW]at h;exact Fd (i:=i) h.2 (λc b=>hc c (cU _ b)) (by simpa using e)
theorem Q3{k:Bool}{x:Str}{ps:List D}{i:Nat}{p:D}(h:fz bO k (.tup (.str x::ps))=true)(e:(d4 x ps)[i]?=some p):(∃k,fz bO k p=true)/\depth p<depth (.tup (.str x::ps)):=by
 obtain⟨s,h1,h2,h3,h4,h5,h6,a,_⟩:=gO h;unfold d4 at e;split at e;·simp at e
 ·rename_i b;refine⟨Fd h3 (a (by simpa using b)) e,?_⟩;have :=vN e;simp only[depth,aO];omega
theorem Xq{k:Bool}{x:Str}{ps:List D}(h:fz bO k (.tup (.str x::ps))=true):(d4 x ps).length<=4:=by
 obtain⟨s,h1,h2,h3,h4,h5,h6,a,_⟩:=gO h;unfold d4;split;·exact fV _
 ·rw[<-h5];simpa using h4
structure Rt(d:D)(n:Nat):Prop where
 wf:∃k,fz bO k d=true
 dp:depth d<n
 ct:(plc d).length<=2000000
 n60:n<=60
theorem RP{nm:D->Bool}:fz nm true (.tup [.str "nat"])=true:=by refine jZ (w:="nat") (s:="") (by decide+kernel) (by decide+kernel) ?_;rw[show(Str.ofString "").cps.toList=[]by decide+kernel];simp[sE,m7]
theorem C8{nm:D->Bool}:fz nm false (.tup [.str "zero"])=true:=by refine jZ (w:="zero") (s:="") (by decide+kernel) (by decide+kernel) ?_;rw[show(Str.ofString "").cps.toList=[]by decide+kernel];simp[sE,m7]
theorem LQ{nm:D->Bool}{a:D}(b:fz nm false a=true):fz nm false (.tup [.str "next",a])=true:=by refine jZ (w:="next") (s:="t") (by decide+kernel) (by decide+kernel) ?_;rw[show(Str.ofString "t").cps.toList=[116]by decide+kernel,dP];simp[sE,m7,b]
structure Th(d:D)(dp kn:Nat):Prop where
 wf:fz bO false d=true
 dp:depth d<=dp
 kn:bK d<=kn
def Wf(d:D):Prop:=∃k,fz bO k d=true
theorem O6{d:D}(h:Wf d):∃x ps k,d= .tup (.str x::ps)/\fz bO k d=true/\ps.length<=10:=by obtain⟨k,h⟩:=h;obtain⟨x,ps,rfl⟩:=MA h;obtain⟨a,_,_,_,h4,h5,_⟩:=gO h;refine⟨x,ps,k,rfl,h,?_⟩;rw[<-h5];exact dI (by simpa using h4) (by decide)
end K54
end
section
namespace K54
open PySem L2 L3 KM
seal L2.PE L2.PS L2.jx L2.PT L2.PW L2.PA L2.PG L2.G0 L2.PI L2.PC L2.PO L2.G3 L2.PK L3.Ba
variable{P:Program}{w:World}{K:PySem.W.Frag}{mg:Str->Option Value}{base:Heap}{t:y_}
theorem sizeLine_eq:sizeLine=16777216:=by decide
def okH(d:D):Prop:=d= .bU\/d= .tup []\/∃x,d= .str x
mutual noncomputable def Jh:D->Prop| .tup []=>True| .tup (h::ps)=>okH h/\YE ps/\ps.length<=20|_=>True noncomputable def YE:List D->Prop|[]=>True|p::ps=>Jh p/\YE ps end
mutual theorem Kk:∀{k:Bool}{d:D},fz bO k d=true->Jh d
 |k, .tup (.str x::ps),h=>by
  obtain⟨s,e1,e2,e3,e4,e5,_⟩:=gO h;refine⟨.inr (.inr ⟨x,rfl⟩),Lo e3,?_⟩;have :s.cps.toList.length=s.cps.size:=by simp
  omega
 |k, .tup [],h=>by simp[fz]at h
 |k, .tup (.bU::_),h=>by simp[fz]at h
 |k, .tup (.bl _::_),h=>by simp[fz]at h
 |k, .tup (.int _::_),h=>by simp[fz]at h
 |k, .tup (.tup _::_),h=>by simp[fz]at h
 |k, .bU,h=>by simp[fz]at h
 |k, .bl _,h=>by simp[fz]at h
 |k, .int _,h=>by simp[fz]at h
 |k, .str _,h=>by simp[fz]at h theorem Lo:∀{cs:List Nat}{ps:List D},m7 bO cs ps=true->YE ps
 |[],[],_=>trivial
 |[],_::_,h=>by simp[m7]at h
 |_::_,[],h=>by simp[m7]at h
 |c::cs,p::ps,h=>by
  rw[dP,bW]at h;refine⟨?_,Lo h.2⟩;have h:=h.1;unfold sE at h;by_cases c1:c=107;·rw[if_pos c1]at h;exact Kk h
  ·rw[if_neg c1]at h;by_cases c2:c=116;·rw[if_pos c2]at h;exact Kk h
   ·rw[if_neg c2]at h;cases p<;>first|trivial|(simp[vm,bO]at h;done)end
theorem Ih:∀{ds:List D},Jh (.tup ds)->ds.length<=21|[],_=>by simp|_::ps,h=>by have :=h.2.2;simp;omega
theorem E3:∀{ps:List D}{p:D},YE ps->p∈ps->Jh p
 |[],_,_,e=>by simp at e
 |q::ps,p,h,e=>by
  rcases List.mem_cons.mp e with rfl|e;·exact h.1
  ·exact E3 h.2 e
theorem UY:∀{d:D},Jh d->∀x∈tk d,Jh x
 | .tup [],_,x,a=>by simp[tk]at a
 | .tup (h::ps),ok,x,a=>by
  have hm:x∈h::ps:=(List.mem_filter.mp a).1;rcases List.mem_cons.mp hm with rfl|hm;·rcases ok.1 with rfl|rfl|⟨y,rfl⟩<;>simp[Jh]
  ·exact E3 ok.2.1 hm
 | .bU,_,x,a=>by simp[tk]at a
 | .bl _,_,x,a=>by simp[tk]at a
 | .int _,_,x,a=>by simp[tk]at a
 | .str _,_,x,a=>by simp[tk]at a
theorem Ha:∀(n:Nat)(l:List D),(∀x∈l,Jh x)->∀x∈lv n l,Jh x|0,_,h=>h|n+1,l,h=>Ha n _ λx a=>by obtain⟨d,hd,a⟩:=List.mem_flatMap.mp a;exact UY (h d hd) x a
noncomputable def kq(d:D):Bool:=!(decide (bK d<=600)&&decide (depth d<=40))
def HV:Sp:=λvs H Q _=>∃ds v,vs=[v]/\Rep H (.tup ds) v/\Jh (.tup ds)/\bK (.tup ds)<=8000000/\∀H',aD H H'->Q (.bl (kq (.tup ds))) H'
noncomputable def iU(ds:List D)(vs:List V)(j:Nat):Option V:=if isTup ((ds[j]?).getD .bU)then vs[j]? else none
theorem vT{H:Hp}:∀{ds:List D}{vs:List V},bS H ds vs->bS H (ds.filter isTup) ((List.range vs.length).filterMap (iU ds vs))
 |[],_,r=>by have r:_=[]:=r;subst r;exact rfl
 |d::ds,_,⟨v,a,e,q,t⟩=>by
  subst e;have c:=vT t;rw[bD,List.range_succ_eq_map,nV,List.filterMap_map];have e:(iU (d::ds) (v::a)∘Nat.succ)=iU ds a:=by funext j;simp[iU]
  rw[e];by_cases hd:isTup d=true
  ·rw[List.filter_cons_of_pos hd];have b:iU (d::ds) (v::a) 0=some v:=by simp[iU,hd]
   simp only[b];exact⟨v,_,rfl,q,c⟩
  ·rw[List.filter_cons_of_neg hd];have b:iU (d::ds) (v::a) 0=none:=by simp[iU,hd]
   simp only[b];exact c
theorem kR(ds:List D):∀x∈[D.tup ds],isTup x=true:=λx a=>by rw[List.mem_singleton.mp a];rfl
theorem lF(ds:List D):a_ [D.tup ds]=bK (.tup ds):=by simp[a_]
theorem FH(ds:List D):aO [D.tup ds]=depth (.tup ds):=by simp[aO]
theorem QU(i:Nat)(ds:List D):(lv i [D.tup ds]).length<=bK (.tup ds):=by have h:=uG (i+1) [D.tup ds] (kR ds);rw[lF]at h;simp only[f_]at h;omega
theorem vy(l:List D)(j:Nat):((l.take j).flatMap tk).length<=(l.flatMap tk).length:=by
 have e:l.flatMap tk=(l.take j).flatMap tk++(l.drop j).flatMap tk:=by rw[<-List.flatMap_append,List.take_append_drop]
 rw[e,cx];omega
theorem zI{L:Nat}:∀(l:List D),(∀d∈l,(tk d).length<=L)->(l.flatMap tk).length<=l.length*L|[],_=>by simp|d::l,h=>by rw[nX,cx,bD,Nat.add_mul,Nat.one_mul];have :=zI l λx a=>h x (cU _ a);have :=h d b5;omega
theorem SI{d:D}(h:Jh d):(tk d).length<=21:=by cases d with|tup es=>exact dI (List.length_filter_le _ _) (Ih h)|_=>simp[tk]
theorem Lk{ds:List D}{i:Nat}(h:600<f_ i [D.tup ds]):kq (.tup ds)=true:=by have :=uG i [D.tup ds] (kR ds);rw[lF]at this;unfold kq;rw[decide_eq_false (by omega)];rfl
theorem Ij{ds:List D}(h:f_ 40 [D.tup ds]<=600):kq (.tup ds)=decide (0<(lv 40 [D.tup ds]).length):=by
 have e:=Gm [D.tup ds] (kR ds);rw[lF,FH]at e;unfold kq;by_cases c:lv 40 [D.tup ds]=[];·obtain⟨a,b⟩:=e.mp ⟨h,c⟩;rw[decide_eq_true a,decide_eq_true b,c];rfl
 ·have :¬(bK (.tup ds)<=600/\depth (.tup ds)<=40):=λz=>c (e.mpr z).2;have hl:0<(lv 40 [D.tup ds]).length:=List.length_pos_iff.mpr c;rw[decide_eq_true hl];by_cases a:bK (.tup ds)<=600;·rw[decide_eq_false λb=>this ⟨a,b⟩,Bool.and_false];rfl
  ·rw[decide_eq_false a];rfl
theorem dy:aJ ["value","level","knots","depth","below","knot"] ["value"] (aq gI):=⟨rfl,rfl,rfl,by decide+kernel,rfl,by decide+kernel,by decide+kernel⟩
theorem GU(D:Df K mg "is_vast" gI ["value"])(M:Mg mg t):da P w K mg cR "is_vast" (1) ["value"] HV:=by
 refine D.ok dy (λvs H Q E h=>?_) (λbase f cH A outer s H vs Q E hr h=>?_);·obtain⟨d,v,rfl,_⟩:=h;rfl
 obtain⟨ds,v,rfl,r,ok,hk,q⟩:=h;refine⟨_,(ah (aE (i:=1) dy.nd rfl (dh rfl) (aT (aa (pv 0) af))) (ah (aE (i:=2) dy.nd rfl (dh rfl) aj) (ah (h_ PassesOwn.never rfl (eN rfl M.fE (aa (kU M.g_MOST_DEEP rfl) af)) (cL (i:=3) dy.nd rfl (dh rfl)) (ah (yd (i:=2) dy.nd rfl (dh rfl) (aM aL rfl M.dj cu (aa (pv 1) af)) yr) (ah (aS (ar mw (pv 2) (kU M.g_MOST_KNOTS rfl) (az _)) (ao (aB wC)) aC) (ah (aE (i:=4) dy.nd rfl (dh rfl) (aT af)) (ah (h_ PassesOwn.never rfl (yg (pv 1)) (cL (i:=5) dy.nd rfl (dh rfl)) (ao (gY (mB PySem.F.plainAttrs_list PySem.F.slot_list_extend PySem.F.type_list_extend Gn (pv 4) (aa (ky (N':=["part"]) (own:=1) (fr:=[]) rfl (jF (N:=["value","level","knots","depth","below","knot"]) (sc:=aq gI) rfl rfl rfl (by decide+kernel)) (RR (pv 5)) (fW (by decide)) (λ_ _ _=>(cL (i:=0) (show List.Nodup (["part"]:List Str)by decide+kernel) rfl (Or.inl rfl))) (λ_ _ _=>(yG (eF (aM (xx (K:=K)) rfl M.dE c_ (aa (pv 0) (aa (JY M.yy sv rfl) af)))))) (λ_ _ _=>(pv 0))) af))))) (ao (aE (i:=1) dy.nd rfl (dh rfl) (pv 4)))))))) (ao (aB (cM mw (aM aL rfl M.dj cu (aa (pv 1) af)) aj (az _))))))),?_⟩;try dsimp only[j6,eC]
 refine IG ?_;intro _ _ _ _;refine⟨_,rfl,(dF rfl),λO J5=>?_⟩;have e1:(upd H O (.lst [v])) O=some (.lst [v]):=ag;have s1:aD H (upd H O (.lst [v])):=ak J5 _;refine⟨40,rfl,by decide,by decide,GD (n:=40) (λi C H'=>∃(q:Addr)(us:List V)(W L g:Option V),C=[some v,some (.ref q),some (.int (f_ i [KM.D.tup ds])),W,L,g]/\H' q=some (.lst us)/\bS H' (lv i [KM.D.tup ds]) us/\f_ i [KM.D.tup ds]<=600/\aD H H') ?_ ?_ ?_⟩;·exact⟨O,[v],none,none,none,rfl,e1,bS.one (r.mono s1),by simp[f_],s1⟩
 ·rintro i C l hi⟨F,us,W,L,g,rfl,I,S,hup,s2⟩;have lus:=S.length;have lvl:=QU i ds;refine⟨_,rfl,_,rfl,F,us,rfl, .inl (bj.of I),_,_,rfl,rfl,?_⟩;have eu:((f_ i [KM.D.tup ds]:Nat):Int)+((us.length:Nat):Int)=((f_ (i+1) [KM.D.tup ds]:Nat):Int):=by simp only[f_];omega
  show aQ _ _ _ [some v,some (.ref F),some (.int (((f_ i [KM.D.tup ds]:Nat):Int)+((us.length:Nat):Int))),some (.int (0+(i:Int))),L,g] l;rw[eu];refine⟨_,rfl,_,_,rfl,rfl,_,rfl,?_⟩;refine bz (λc=>?_) (λc=>?_);·have c:(600:Int)<((f_ (i+1) [KM.D.tup ds]:Nat):Int):=of_decide_eq_true c;have e:=Lk (ds:=ds) (i:=i+1) (by omega);rw[e]at q;exact q l s2
  have c:¬(600:Int)<((f_ (i+1) [KM.D.tup ds]:Nat):Int):=of_decide_eq_false (Bool.eq_false_iff.mpr c);refine⟨by show 0<=sizeLine;decide,λm YB=>?_⟩;have e4:(upd l m (.lst [])) m=some (.lst []):=ag;have s4:aD l (upd l m (.lst [])):=ak YB _;refine⟨_,rfl,F,rfl,⟨us,bj.of (s4 _ _ I)⟩,JL (xs:=us) (λj C H'=>∃(bs:List V)(g:Option V),C=[some v,some (.ref F),some (.int (f_ (i+1) [KM.D.tup ds])),some (.int (0+(i:Int))),some (.ref m),g]/\H' m=some (.lst bs)/\bS H' (((lv i [KM.D.tup ds]).take j).flatMap tk) bs/\aD l H') ?_ ?_ ?_ ?_⟩;·exact⟨[],g,rfl,e4,by simp[bS],s4⟩
  ·rintro j C H' _⟨bs,g,rfl,h4,G,s'⟩;exact bj.of (s' _ _ I)
  ·rintro j u C H5 hu⟨bs,g,rfl,h4,G,T⟩;obtain⟨d,hd,rd⟩:=S.get' hu;have htd:=Ey i [KM.D.tup ds] (kR ds) d (List.mem_of_getElem? hd);obtain⟨es,rfl⟩:∃es,d= .tup es:=by cases d<;>first|exact⟨_,rfl⟩|cases htd
   obtain⟨a,ws,rfl,ha,X⟩:=rd.mono T;have FI:ws.length<=sizeLine:=by have h1:=X.length;have h2:=Ih (Ha i [KM.D.tup ds] (λx y=>by rw[List.mem_singleton.mp y];exact ok) _ (List.mem_of_getElem? hd));rw[sizeLine_eq];omega
   refine⟨_,rfl, .inl ⟨rfl,_,bj.of h4⟩,_,rfl,a,rfl,⟨ws,gG.of ha⟩,λp hp=>KA ws.length (iU es ws) hp FI (λk U hk6 B=>?_) λU B h6=>?_⟩
   ·obtain⟨wk,J⟩:∃x,ws[k]?=some x:=⟨_,cN hk6⟩;have hqa:gG K U a ws:=gG.of (B _ _ ha);refine⟨⟨ws,wk,hqa,J⟩,?_⟩;rintro x' Y⟨rfl,hy⟩R R0 hR YY;have y:=hy ws hqa;rw[J]at y;cases y;obtain⟨dk,Y2,rk⟩:=X.get' J;refine⟨_,rfl,_,_,_,_,rfl,(Rep.mono B rk).ty,Mz _ dk,_,rfl,?_⟩;refine bz (λc=>?_) (λc=>?_);·exact⟨_,rfl,hR wk Y (by simp[iU,Y2,c,J]) (aD.refl _)⟩
    ·exact YY Y (by simp[iU,Y2,c]) (aD.refl _)
   ·have lb:=G.length;have Z:=B _ _ h4;have n4:m≠p:=aI h4 hp;have hl:(lv i [KM.D.tup ds]).take (j+1)=(lv i [KM.D.tup ds]).take j++[KM.D.tup es]:=by rw[List.take_add_one,hd];rfl
    have hfl:((lv i [KM.D.tup ds]).take (j+1)).flatMap tk=((lv i [KM.D.tup ds]).take j).flatMap tk++es.filter isTup:=by rw[hl,List.flatMap_append];simp[tk]
    have rpk:=vT (X.mono B);have lpk:=rpk.length;have lfl:=vy (lv i [KM.D.tup ds]) (j+1);rw[<-qj,hfl,cx]at lfl;have lv1:(lv (i+1) [KM.D.tup ds]).length<=600*21:=by rw[qj];refine dI (zI _ λx y=>SI (Ha i [KM.D.tup ds] (λx y=>by rw[List.mem_singleton.mp y];exact ok) x y)) (Nat.mul_le_mul_right _ ?_);simp only[f_]at c;omega
    have np:∀vs,U m≠some (.tup vs):=λvs z=>by rw[Z]at z;cases z
    refine⟨⟨ws,gG.of (B _ _ ha),bB _⟩,m,p,_,_,rfl,rfl,Z,h6,?_,?_⟩;·rw[lb,lpk,sizeLine_eq];omega
    ·refine⟨_,_,rfl,ag,?_,λb o hb=>?_⟩;·rw[hfl];exact bS.gS (bM.upd _) np ((G.mono B).append rpk)
     ·rw[bc (aI hb YB)];exact B _ _ (T _ _ hb)
  ·rintro C H5⟨bs,g,rfl,h4,G,T⟩;rw[nM (by omega),<-qj]at G;refine⟨_,rfl,m,bs,_,_,_,rfl,h4,G,by omega,s2.trans T⟩
 ·rintro C l⟨F,us,W,L,g,rfl,I,S,hup,s2⟩;refine⟨_,rfl,F,us,rfl, .inl (bj.of I),_,_,rfl,rfl,?_⟩;have e:decide ((0:Int)<((us.length:Nat):Int))=kq (.tup ds):=by rw[Ij hup,S.length];simp
  show Q (.bl (decide ((0:Int)<((us.length:Nat):Int)))) l;rw[e];exact q l s2
end K54
end
section
namespace K54
open PySem L2 L3 KM PyProof.Rows
seal L2.PE L2.PS L2.jx L2.PT L2.PW L2.PA L2.PG L2.G0 L2.PI L2.PC L2.PO L2.G3 L2.PK L3.Ba
variable{P:Program}{w:World}{K:PySem.W.Frag}{mg:Str->Option Value}{base:Heap}{t:y_}
theorem GB{k:Bool}{x:Str}{ps:List D}(h:fz bO k (.tup (.str x::ps))=true)(j:ik x=true):∀(i:Nat)(p:D),ps[i]?=some p->isTup p=false/\(vm p=true\/bO p=true):=by
 obtain⟨s,h1,h2,h3,h4,h5,h6,m,_⟩:=gO h;have hc:∀(d:List Nat)(a:List D)(i:Nat),m7 bO d a=true->(∀c∈d,TY c=!ik x)->∀p,a[i]?=some p->isTup p=false/\(vm p=true\/bO p=true):=λd=>by
  induction d with
   |nil=>intro a i hq _ p e;cases a with|nil=>simp at e|cons _ _=>simp[m7]at hq
   |cons c d l=>
    intro a i hq g p e;cases a with
     |nil=>simp[m7]at hq
     |cons q a=>
      rw[dP,bW]at hq;cases i with
       |zero=>
        simp at e;subst e;have f:=g c b5;rw[j]at f;have b:=hq.1;unfold sE at b;rw[if_neg (λz=>by rw[z,kt1]at f;cases f),if_neg (λz=>by rw[z,kt2]at f;cases f)]at b;split at b;·exact⟨by cases q<;>simp[vm]at b<;>rfl, .inl b⟩
        ·exact⟨by cases q<;>simp[bO]at b<;>rfl, .inr b⟩
       |succ i=>exact l a i hq.2 (λc hc=>g c (cU _ hc)) p (by simpa using e)
 exactλi p e=>hc _ ps i h3 h6 p e
theorem vE:∀(ps:List D),(∀(i:Nat)(p:D),ps[i]?=some p->isTup p=false)->a_ ps=0/\aO ps=0
 |[],_=>⟨rfl,rfl⟩
 |p::ps,h=>by
  obtain⟨h1,h2⟩:=vE ps λi q e=>h (i+1) q (by simpa using e);have a:=h 0 p rfl;have b:bK p=0:=by cases p<;>first|rfl|simp[isTup]at a
  have c:depth p=0:=by cases p<;>first|rfl|simp[isTup]at a
  simp[a_,aO,h1,h2,b,c]
theorem uq:∀ps:List D,a_ ps=(ps.map bK).sum|[]=>rfl|p::ps=>by simp[a_,uq ps]
theorem sf:∀ps:List D,aO ps=Rc (ps.map depth)|[]=>rfl|p::ps=>by rw[aO,sf ps];rfl
theorem BI{k:Bool}{x:Str}{ps:List D}(h:fz bO k (.tup (.str x::ps))=true):bK (.tup (.str x::ps))=1+((d4 x ps).map bK).sum/\depth (.tup (.str x::ps))=1+Rc ((d4 x ps).map depth):=by
 rw[<-uq,<-sf];have b:bK (.tup (.str x::ps))=1+a_ ps:=by simp[bK,a_]
 have c:depth (.tup (.str x::ps))=1+aO ps:=by simp[depth,aO]
 rw[b,c];unfold d4;by_cases a:ik x=true;·obtain⟨d,f⟩:=vE ps λi p e=>(GB h a i p e).1;rw[if_pos a,d,f];exact⟨rfl,rfl⟩
 ·rw[if_neg a];exact⟨rfl,rfl⟩
structure Rz(d:D)(n:Nat):Prop where
 wf:Wf d
 dp:depth d<n
 kn:bK d<=8000000
theorem Rz.kid{n:Nat}{x:Str}{ps:List D}{i:Nat}{p:D}(h:Rz (.tup (.str x::ps)) (n+1))(e:(d4 x ps)[i]?=some p):Rz p n:=by obtain⟨k,wf⟩:=h.wf;obtain⟨w1,w2⟩:=Q3 wf e;have hd:=h.dp;have a:=h.kn;refine⟨w1,by omega,?_⟩;rw[(BI wf).1]at a;have :=s_ ((d4 x ps).map bK) i;rw[fU,e]at this;have :bK p<=((d4 x ps).map bK).sum:=this;omega
def E4(n:Nat):Sp:=λvs H Q _=>∃(d:D)(v:V),vs=[v]/\Rep H d v/\Rz d n/\∀(i:Int)(H':Hp),i<=99->aD H H'->Q (.int i) H'
theorem nQ:aJ ["thing"] ["thing"] (aq cO):=⟨rfl,rfl,rfl,by decide+kernel,rfl,by decide+kernel,by decide+kernel⟩
theorem nW{n:Nat}(D:Df K mg "top_variable" cO ["thing"])(M:Mg mg t)(O:da P w K mg cR "kids_of" (1) ["thing"] Bz)(S:da P w K mg cR "top_variable" (n+3) ["thing"] (E4 n)):da P w K mg cR "top_variable" (n+4) ["thing"] (E4 (n+1)):=by
 refine D.ok nQ (λvs H Q E h=>?_) (λbase f cH A outer s H vs Q E F h=>?_);·obtain⟨d,v,rfl,_⟩:=h;rfl
 obtain⟨d,v,rfl,r,I,q⟩:=h;obtain⟨x,ps,k,rfl,wf,M5⟩:=O6 I.wf;have Y:=Xq wf;obtain⟨a,L,rfl,ha,v0,L,rfl,⟨rfl,o⟩,rp⟩:=id r;have U:zj (V.str x::L) 0=some (.str x):=aG (j:=0) rfl;refine⟨_,(ah (aS (ar aN (aZ gV (pv 0) aj (λ_ _=>rfl)) ai (az _)) (ao (aB (aZ gV (pv 0) aj (λ_ _=>rfl)))) aC) (ao (aB (Mi M.V4 (aa (ky (N':=["kid"]) (own:=1) (fr:=[]) rfl (jF (N:=["thing"]) (sc:=aq cO) rfl rfl rfl (by decide+kernel)) (yg (bA O F.m rfl bh (aa (pv 0) af))) (fW (by decide)) (λ_ _ _=>(cL (i:=0) (show List.Nodup (["kid"]:List Str)by decide+kernel) rfl (Or.inl rfl))) (λ_ _ _=>qi) (λ_ _ _=>(bA S F.m rfl bh (aa (pv 0) af)))) af) (LP aj QS))))),?_⟩;try dsimp only[j6,eC]
 refine vn ?_;intro _ _;refine⟨_,rfl,a,_,_,_,rfl,rfl,gG.of ha,U,rfl,_,rfl,?_⟩;refine bz (λc=>?_) (λc=>?_)
 ·have c:V.str x=V.str "var":=of_decide_eq_true c;cases c;obtain⟨sh,B,_,l,_,m,_⟩:=gO wf;rw[i_]at B;cases B;rw[JZ]at l m;obtain⟨b,rfl⟩:∃b,ps=[b]:=by cases ps with|nil=>simp at m|cons b rest=>cases rest with|nil=>exact⟨b,rfl⟩|cons _ _=>simp at m
  rw[dP,bW]at l;have hn:vm b=true:=by simpa[sE]using l.1
  obtain⟨i,rfl⟩:∃i,b= .int i:=by cases b<;>first|exact⟨_,rfl⟩|simp[vm]at hn
  obtain⟨u1,us1,rfl,e,_⟩:=rp;cases(show u1=V.int i from e);have hi:i<=99:=by simp[vm]at hn;exact hn.2
  exact⟨_,rfl,a,_,_, .int i,rfl,rfl,gG.of ha,aG (j:=1) rfl,q i H hi (aD.refl H)⟩
 refine⟨_,rfl,x,ps,_,rfl,r,M5,λp1 us H1 _ s1 h1 e=>⟨p1,rfl,⟨us,bj.of h1⟩,λp2 Z=>?_⟩⟩;have l1:=e.length;refine GN (d4 x ps).length (λ_ z=>z<=99) Z (dI Y (by decide)) (λi u hi s2=>?_) λns u s2 hl W h2=>⟨⟨us,bj.of (s2 _ _ h1),by omega⟩,?_⟩;·obtain⟨g,C⟩:∃g,(d4 x ps)[i]?=some g:=⟨_,cN hi⟩;obtain⟨J,G,rui⟩:=e.get C;refine⟨⟨us,J,bj.of (s2 _ _ h1),G⟩,?_⟩;rintro y H3⟨rfl,hy⟩R X;have o:=hy us (bj.of (s2 _ _ h1));rw[G]at o;cases o;exact⟨_,rfl,g,J,rfl,rui.mono s2,I.kid C,λz T p s4=>X z T s4 p⟩
 ·refine⟨p2,ns,_,rfl,rfl,bj.of h2,?_⟩;refine q _ u (maxD_le (by decide) λz p=>?_) (s1.trans s2);obtain⟨i,hi,rfl⟩:=List.mem_iff_getElem.mp p;exact W i _ (cN hi)
theorem iK(D:Df K mg "top_variable" cO ["thing"])(M:Mg mg t)(a:da P w K mg cR "kids_of" (1) ["thing"] Bz):∀n:Nat,da P w K mg cR "top_variable" (n+3) ["thing"] (E4 n)|0=>da.never D λvs H Q E⟨d,v,_,_,h,_⟩=>absurd h.dp (Nat.not_lt_zero _)|n+1=>nW D M a (iK D M a n)
def vD(C:Addr)(n:Nat):Sp:=λvs H Q E=>∃(d:D)(v:V),vs=[v]/\Rep H d v/\Rz d n/\(∀H',aD H H'->kq d=false->Q v H')/\(∀H',aD H H'->kq d=true->E (.ref C) none H')
theorem B0:aJ ["thing"] ["thing"] (aq iV):=⟨rfl,rfl,rfl,by decide+kernel,rfl,by decide+kernel,by decide+kernel⟩
theorem GH{n:Nat}(D:Df K mg "bounded" iV ["thing"])(M:Mg mg t)(g:lO K t.gi)(j:da P w K mg cR "is_vast" (1) ["value"] HV)(l:da P w K mg cR "top_variable" (n+3) ["thing"] (E4 n)):da P w K mg (gK P w) "bounded" (n+4) ["thing"] (vD t.gi n):=by
 refine D.O8 B0 (λvs H Q E h=>?_) (λbase f cH A outer s H vs Q E b h=>?_);·obtain⟨d,v,rfl,_⟩:=h;rfl
 obtain⟨d,v,rfl,r,a,q,y⟩:=h;obtain⟨x,ps,k,rfl,wf,B⟩:=O6 a.wf;refine⟨_,(ah (aS (L2.PW.pt (dN (eF (bA j b.m rfl bh (aa (pv 0) af))) (dH (ar mw (bA l b.m rfl bh (aa (pv 0) af)) (kU M.g_MOST_VARIABLE rfl) (az _))))) (ao (ej (G:=(λH'=>E (.ref t.gi) none H')) g M.g_Great (aa ai af) (λpins σ H s e h' I m q=>fF I m q))) aC) (ao (aB (pv 0)))),?_⟩;try dsimp only[j6,z]
 refine vn ?_;intro _ _;refine⟨_,rfl,_,v,rfl,r,Kk wf,a.kn,λo s1=>⟨_,rfl,?_⟩⟩;refine bz (λc=>bo ⟨by decide,y o s1 c⟩) (λc=>?_);refine⟨_,rfl,_,v,rfl,r.mono s1,a,λi p hi s2=>⟨_,_,rfl,rfl,_,rfl,?_⟩⟩;refine bz (λu=>absurd (of_decide_eq_true u) (by omega)) (λ_=>⟨_,rfl,q p (s1.trans s2) (Bool.eq_false_iff.mpr c)⟩)
noncomputable abbrev Rb(d:D)(n:Nat):Prop:=Rz d n
end K54
end
section
namespace L3
open PySem PySem.Spec PyProof.Rows L2 KM
def Dm(K:PySem.W.Frag)(C:Addr)(m qual:Str)(st:Stmt)(ps:List Str):Prop:=∃f fd,NI K m qual st f fd/\Meth K C m f/\Binds K fd ps []
noncomputable def jq(P:Program)(w:World)(K:PySem.W.Frag)(mg:Str->Option Value)(CX:nU)(C:Addr)(m:Str)(k:Nat)(ps:List Str)(sp:Sp):Prop:=∃f fd,(∀base,nP P w K mg base CX k f fd ps sp)/\Meth K C m f/\Binds K fd ps []
section
variable{P:Program}{w:World}{K:PySem.W.Frag}{mg:Str->Option Value}{C:Addr}{m qual:Str}{st:Stmt}{N ps:List Str}{k:Nat}{sp:Sp}
theorem Dm.ok(D:Dm K C m qual st ps)(S:aJ N ps (aq st))(len:∀vs H Q E,sp vs H Q E->vs.length=ps.length)(a:∀(base:Heap)(f:Addr)(cH:Value)(A:Around)(outer:List Env)(s:Shared)(H:Hp)(vs:List V)(Q:VK)(E:XK),cV k (A.deeper (envOfC qual (aq st) s.heap.objs.size f cH))->sp vs H Q E->∃t,jx (d_ cR P w K mg base N qual (aq st) f cH A outer s H E).DT (bN st) t/\t {nx:=λ_ H'=>Q .bU H',rt:=Q} (start N vs) H):jq P w K mg cR C m (k+1) ps sp:=by obtain⟨f,fd,F,M,b⟩:=D;exact⟨f,fd,λbase=>F.ok S len (a base f),M,b⟩
theorem Dm.O8(D:Dm K C m qual st ps)(S:aJ N ps (aq st))(len:∀vs H Q E,sp vs H Q E->vs.length=ps.length)(a:∀(base:Heap)(f:Addr)(cH:Value)(A:Around)(outer:List Env)(s:Shared)(H:Hp)(vs:List V)(Q:VK)(E:XK),cV k (A.deeper (envOfC qual (aq st) s.heap.objs.size f cH))->sp vs H Q E->∃t,jx (d_ (gK P w) P w K mg base N qual (aq st) f cH A outer s H E) (bN st) t/\t {nx:=λ_ H'=>Q .bU H',rt:=Q} (start N vs) H):jq P w K mg (gK P w) C m (k+1) ps sp:=by obtain⟨f,fd,F,M,b⟩:=D;refine⟨f,fd,λbase=>?_,M,b⟩;obtain⟨oc,od,kV,doc,pm,an,cH,ct,Ge,rfl,g,c⟩:=F.ex;exact J4 g c S len λA outer s H vs Q E d e=>a base f cH A outer s H vs Q E d e
end
section
variable{X:Cx}{CX:nU}{C:Addr}{m x:Str}{k:Nat}{ps:List Str}{sp:Sp}{E:XK}{o e:Expr}{es:List Expr}{ta:TE}{t:TA}{p pos apos:Pos}{pl:Sem Bool}
theorem OZ(F:jq X.prog X.w X.K X.mg CX C m k ps sp)(c:Jz X.K C)(z:cV k X.A)(B:Passes CX X E)(w:PE X o ta)(ha:PA X (e::es) t)(A:starEach (e::es) X.env=(false,eval e X.env)::starEach es X.env:=by rfl)(y:(backTo pos (starEach es X.env)).any (·.1)=false:=by rfl)(ht:eval (.Call (.Attribute o m apos) (e::es) [] pos) X.env=(do let j<-eval o X.env;standAt apos.atName;let(f,first)<-holding [j] (getMethod j m pl);callWith pos f first (backTo pos (starEach (e::es) X.env)) (backToKw pos (keywordEach [] X.env))):=by rfl)(hc:X.calm=true:=by rfl):PE X (.Call (.Attribute o m apos) (e::es) [] pos) (Qa C m sp [] E ta t):=by obtain⟨f,fd,F,hm,hb⟩:=F;intro pins s σ H Q I h;refine PySem.W.methodCall_KW (pl:=pl) (bR (w pins s σ H _ I h) λu s1 G=>?_) ht;obtain⟨x,n,i,D,a,dx,fs,ex,v,l,q⟩:=G;subst ex;obtain rfl:u=Value.ref a:=D;refine tU i v c hm l ?_;refine PySem.W.callWith_K (first:=[.ref a]) (h₀:=X.base) I.ok.mod.FE hm.kp (bR (ha pos pins s1 σ n _ i q) λus s2⟨vs,g,d,r,b⟩=>⟨d.ic,?_⟩) A y;have b:sp (.ref a::(vs++[])) g Q E:=b;rw[eY]at b;exact ka (us:= .ref a::us) (vs:= .ref a::vs) F z hb d hc (λe s' hc=>B pins σ g s2 e s' d hc) (.cons rfl r) b
theorem tX(F:jq X.prog X.w X.K X.mg CX C m k ps sp)(c:Jz X.K C)(n:cV k X.A)(r:Passes CX X E)(j:PE X o ta)(ht:eval (.Call (.Attribute o m apos) [] [] pos) X.env=(do let g<-eval o X.env;standAt apos.atName;let(f,first)<-holding [g] (getMethod g m pl);callWith pos f first (backTo pos (starEach [] X.env)) (backToKw pos (keywordEach [] X.env))):=by rfl)(hc:X.calm=true:=by rfl):PE X (.Call (.Attribute o m apos) [] [] pos) (Qa C m sp [] E ta iB):=by obtain⟨f,fd,F,hm,hb⟩:=F;intro pins s σ H Q I h;refine PySem.W.methodCall_KW (pl:=pl) (bR (j pins s σ H _ I h) λu s1 w=>?_) ht;obtain⟨x,d,b,v,a,dx,fs,ex,i,l,q⟩:=w;subst ex;obtain rfl:u=Value.ref a:=v;refine tU b i c hm l ?_;have q:sp [.ref a] d Q E:=q;exact PySem.W.callWith_K0 (first:=[.ref a]) b.ic hm.kp (ka (us:=[.ref a]) (vs:=[.ref a]) F n hb b hc (λe s' hc=>r pins σ d s1 e s' b hc) (.cons rfl .nil) q)
end
structure MkC(K:PySem.W.Frag)(C f:Addr):Prop where
 makes:PySem.W.makesIn K C=true
 init:PySem.W.findIn K (.ref C) "__init__"=some (some (.ref f))
 fn:PySem.W.isFn K (.ref f)=true
 kp:PySem.W.keepIn K (.ref C)=true
noncomputable def Nc(P:Program)(w:World)(K:PySem.W.Frag)(mg:Str->Option Value)(x:Str)(C:Addr)(k:Nat)(ps:List Str)(sp:Sp):Prop:=∃f fd,(∀base,nP P w K mg base cR k f fd ps sp)/\MkC K C f/\mg x=some (.ref C)/\Binds K fd ps []
section
variable{X:Cx}{C:Addr}{x:Str}{k:Nat}{ps:List Str}{sp:Sp}{e:Expr}{es:List Expr}{t:TA}{p pos:Pos}
theorem BE(F:Nc X.prog X.w X.K X.mg x C k ps sp)(w:cV (k+1) X.A)(n:Gl X x)(y:Passes cR X E0)(ha:PA X (e::es) t)(l:(x==("__debug__":Str))=false:=by decide)(m:starEach (e::es) X.env=(false,eval e X.env)::starEach es X.env:=by rfl)(o:(backTo pos (starEach es X.env)).any (·.1)=false:=by rfl)(hc:X.calm=true:=by rfl):PE X (.Call (.Name x p) (e::es) [] pos) (XN C sp [] E0 t):=by
 obtain⟨f,fd,F,M,hm,hb⟩:=F;intro pins B σ H0 Q c h;refine wpAny_Call_Name_kw (gy c n hm ?_ l);refine PySem.W.callWith_K (h₀:=X.base) c.ok.mod.FE M.kp (bR (ha pos pins B σ H0 _ c h) λus s⟨vs,H,I,r,q⟩=>⟨I.ic,?_⟩) m o;have hq:=q (s.heap.objs.size+1) s.heap.objs.size (I.cI.fresh (Nat.le_succ _)) (I.cI.fresh (bB _)) (eH (Nat.lt_succ_self _));rw[eY]at hq;have b:=Inv.made (C:=C) I;have g:Vals (V.ref (s.heap.objs.size+1)::vs) (Value.ref (s.heap.objs.size+1)::us):= .cons rfl r;have hl:(Value.ref (s.heap.objs.size+1)::us).length=ps.length:=by rw[<-g.length];exact(F X.base).len _ _ _ _ hq
 have d:=hb _ (Value.ref (s.heap.objs.size+1)::us) b.ic (by rw[eY];exact hl);rw[eY]at d;refine wpAny_call (Hy (f:=f) I.ic M.makes M.init (beq_iff_eq.mp M.fn) (codeAny_mono ((F _).run _ X.stack _ _ ⟨Value.ref (s.heap.objs.size+1)::us,[]⟩ (Value.ref (s.heap.objs.size+1)::us) _ _ E0 (w.make C us []) ((LM b hc).make C us []) d g hq) λr s' a=>?_));cases r with|error e=>exact y pins σ _ _ e s' b a|ok fl=>cases fl with|ret u=>obtain⟨v,H',i,A,j,z⟩:=b.after a;subst j;exact⟨A,⟨V.ref (s.heap.objs.size+1),H',i,rfl,z⟩⟩|next=>exact False.elim a|brk=>exact False.elim a|cont=>exact False.elim a
end
end L3
end
section
namespace K54
open PySem L2 L3 KM PyProof.Rows
seal L2.PE L2.PS L2.jx L2.PT L2.PW L2.PA L2.PG L2.G0 L2.PI L2.PC L2.PO L2.G3 L2.PK L3.Ba L3.LD L3.L6 L3.lA L3.W3
variable{P:Program}{w:World}{K:PySem.W.Frag}{mg:Str->Option Value}{base:Heap}{t:y_}
structure nq(K:PySem.W.Frag)(C:Addr):Prop where
 cls:Jz K C
 word:gD K C "word"
 name:gD K C "name"
 gT:gD K C "due"
 parts:gD K C "parts"
noncomputable def YN(w n d:V)(p:Addr):List (Str×V):=[("word",w),("name",n),("due",d),("parts", .ref p)]
def yq(C:Addr):Sp:=λvs H Q _=>∃(x dx:Addr)(w n d:V),vs=[.ref x,w,n,d]/\H x=some (.ins C dx [])/\∀(p:Addr)(H':Hp),H p=none->p≠x->H' p=some (.lst [])->H' x=some (.ins C dx (YN w n d p))->(∀b o,b≠x->H b=some o->H' b=some o)->Q .bU H'
theorem wQ:aJ ["self","word","name","due"] ["self","word","name","due"] (aq cS):=⟨rfl,rfl,rfl,by decide+kernel,rfl,by decide+kernel,by decide+kernel⟩
theorem c_Form_init(D:Dm K t.Form "__init__" "Form.__init__" cS ["self","word","name","due"])(M:Mg mg t)(aH:nq K t.Form):jq P w K mg cR t.Form "__init__" (1) ["self","word","name","due"] (yq t.Form):=by
 refine D.ok wQ (λvs H Q E h=>?_) (λbase f cH A outer s H vs Q E j h=>?_);·obtain⟨x,dx,w,n,d,rfl,_⟩:=h;rfl
 obtain⟨x,dx,w,n,d,rfl,e,q⟩:=h;refine⟨_,(ah (yf (pv 0) (pv 1) rfl) (ah (yf (pv 0) (pv 2) rfl) (ah (yf (pv 0) (pv 3) rfl) (ao (yf (pv 0) (aT af) rfl))))),?_⟩;try dsimp only[j6,i]
 refine IG ?_;intro _ _ _ _;refine⟨_,rfl,_,rfl,x,t.Form,dx,[],rfl,e,aH.cls,aH.word,(by decide),?_⟩;refine⟨_,rfl,_,rfl,x,t.Form,dx,_,rfl,ag,aH.cls,aH.name,(by show 1<1000;decide),?_⟩;refine⟨_,rfl,_,rfl,x,t.Form,dx,_,rfl,ag,aH.cls,aH.gT,(by show 2<1000;decide),?_⟩;refine⟨(dF rfl),λp a=>?_⟩;rw[Fg,Fg]at a⊢;have c:p≠x:=λz=>by rw[z,ag]at a;cases a
 rw[bc c]at a;refine⟨_,rfl,x,t.Form,dx,_,rfl,(by rw[bc c.symm];exact ag),aH.cls,aH.parts,(by show 3<1000;decide),?_⟩;refine q p _ a c (by rw[bc c];exact ag) ag λb o hb h=>?_;have g:b≠p:=aI h a;rw[bc hb,bc g,bc hb];exact h
structure Fm(K:PySem.W.Frag)(C:Addr)(H:Hp)(x:Addr)(w n:V)(ds:List V)(p:Addr)(ps:List V):Prop where
 obj:∃(dx d:Addr),H x=some (.ins C dx (YN w n (.ref d) p))/\gG K H d ds
 parts:H p=some (.lst ps)
theorem Fm.mono{C x p:Addr}{H H':Hp}{w n:V}{ds ps:List V}(F:Fm K C H x w n ds p ps)(s:aD H H'):Fm K C H' x w n ds p ps:=by
 obtain⟨dx,d,a,hd⟩:=F.obj;refine⟨⟨dx,d,s _ _ a,?_⟩,s _ _ F.parts⟩;rcases hd with h|h;·exact .inl (h.imp (λh=>s _ _ h) λ⟨o,h⟩=>⟨o,s _ _ h⟩)
 ·exact .inr h
def zc(K:PySem.W.Frag)(C:Addr):Sp:=λvs H Q _=>∃(x p:Addr)(w n:V)(ds ps:List V),vs=[.ref x]/\Fm K C H x w n ds p ps/\Q (.bl (decide (ps.length=ds.length))) H
theorem nK:aJ ["self"] ["self"] (aq bP):=⟨rfl,rfl,rfl,by decide+kernel,rfl,by decide+kernel,by decide+kernel⟩
theorem c_Form_is_full(D:Dm K t.Form "is_full" "Form.is_full" bP ["self"])(M:Mg mg t)(aH:nq K t.Form):jq P w K mg cR t.Form "is_full" (1) ["self"] (zc K t.Form):=by
 refine D.ok nK (λvs H Q E h=>?_) (λbase f cH A outer s H vs Q E c h=>?_);·obtain⟨x,p,w,n,ds,ps,rfl,_⟩:=h;rfl
 obtain⟨x,p,w,n,ds,ps,rfl,F,q⟩:=h;obtain⟨dx,d,a,hd⟩:=F.obj;refine⟨_,(ao (aB (cM aN (aM aL rfl M.dj cu (aa (eJ (pv 0) rfl) af)) (aM aL rfl M.dj cu (aa (eJ (pv 0) rfl) af)) (az _)))),?_⟩;try dsimp only[j6,b]
 refine⟨_,rfl,x,t.Form,dx,_,_,rfl,a,aH.cls,aH.parts,rfl,p,_,rfl, .inl (bj.of F.parts),_,rfl,x,t.Form,dx,_,_,rfl,a,aH.cls,aH.gT,rfl,d,_,rfl, .inr hd,rfl,?_⟩;have e:decide (V.int ((ps.length:Nat):Int)=V.int ((ds.length:Nat):Int))=decide (ps.length=ds.length):=by
  by_cases h:ps.length=ds.length;·rw[h];simp
  ·rw[decide_eq_false h];exact decide_eq_false λz=>h (by injection z with z;omega)
 rw[e];exact q
def tw(K:PySem.W.Frag)(C N:Addr):Sp:=λvs H Q E=>∃(x p a:Addr)(w n:V)(ds ps us:List V)(y:Str),vs=[.ref x, .ref a]/\Fm K C H x w n ds p ps/\H a=some (.tup (.str y::us))/\ps.length<1000/\(ps.length=ds.length->E (.ref N) none H)/\(∀dd:Str,ds[ps.length]?=some (.str dd)->dB y≠decide (dd="kind")->E (.ref N) none H)/\(ps.length≠ds.length->∃dd:Str,ds[ps.length]?=some (.str dd)/\(dB y=decide (dd="kind")->∀H',H' p=some (.lst (ps++[.ref a]))->bM p H H'->Q .bU H'))
theorem xH:aJ ["self","thing"] ["self","thing"] (aq cT):=⟨rfl,rfl,rfl,by decide+kernel,rfl,by decide+kernel,by decide+kernel⟩
theorem c_Form_take(D:Dm K t.Form "take" "Form.take" cT ["self","thing"])(M:Mg mg t)(aH:nq K t.Form)(k:lO K t.aU)(T:Mp K t.hI [.str "nat", .str "none", .str "all", .str "some", .str "same"])(o:jq P w K mg cR t.Form "is_full" (1) ["self"] (zc K t.Form)):jq P w K mg (gK P w) t.Form "take" (2) ["self","thing"] (tw K t.Form t.aU):=by
 refine D.O8 xH (λvs H Q E h=>?_) (λbase f cH A outer s H vs Q E v h=>?_);·obtain⟨x,p,a,w,n,ds,ps,us,y,rfl,_⟩:=h;rfl
 obtain⟨x,p,a,w,n,ds,ps,us,y,rfl,F,ha,hlen,r,i,q⟩:=h;obtain⟨dx,d,g,hd⟩:=id F.obj;refine⟨_,(ah (aS (eF (tX o aH.cls v.m bh (pv 0))) (ao (ej (G:=(λH'=>E (.ref t.aU) none H')) k M.g_NoText (aa ai af) (λpins σ H s e h' I m q=>fF I m q))) aC) (ah (aS (ar OP (cM dX (aZ gV (pv 1) aj (λ_ _=>rfl)) (bV M.g_KIND_WORDS rfl) rfl) (cM aN (aZ gV (eJ (pv 0) rfl) (aM aL rfl M.dj cu (aa (eJ (pv 0) rfl) af)) (λ_ _=>rfl)) ai (az _)) (az _)) (ao (ej (G:=(λH'=>E (.ref t.aU) none H')) k M.g_NoText (aa ai af) (λpins σ H s e h' I m q=>fF I m q))) aC) (ao (gY (mB PySem.F.plainAttrs_list PySem.F.slot_list_append PySem.F.type_list_append fL (eJ (pv 0) rfl) (aa (pv 1) af)))))),?_⟩;try dsimp only[j6,B]
 refine Ro ?_;intro _ _ _;refine⟨_,rfl,x,dx,_,rfl,g,rfl,x,p,w,n,ds,ps,rfl,F,_,rfl,bz (λc=>?_) (λc=>?_)⟩;·exact⟨by decide,r (of_decide_eq_true c)⟩
 have c:ps.length≠ds.length:=λz=>c (decide_eq_true z);obtain⟨dd,l,q⟩:=q c;have i:=i dd l;have u:decide (V.str dd=V.str "kind")=decide (dd="kind"):=by
  by_cases h:dd="kind";·rw[h];simp
  ·rw[decide_eq_false h];exact decide_eq_false λz=>h (by injection z)
 refine⟨_,rfl,a,_,_,_,rfl,rfl,gG.of ha,aG (j:=0) rfl,t.hI,_,rfl, .inr (.inr T),rfl,rfl,_,rfl,x,t.Form,dx,_,_,rfl,g,aH.cls,aH.gT,rfl,_,rfl,x,t.Form,dx,_,_,rfl,g,aH.cls,aH.parts,rfl,p,_,rfl, .inl (bj.of F.parts),d,_,_,_,rfl,rfl,hd,aG l,rfl,rfl,_,rfl,?_⟩;rw[u];show if(!decide (V.bl (dB y)=V.bl (decide (dd="kind"))))=true then _ else _;refine bz (λb=>?_) (λb=>?_);·refine⟨by decide,i λz=>?_⟩;rw[z]at b;simp at b
 ·have b:dB y=decide (dd="kind"):=by
   have :decide (V.bl (dB y)=V.bl (decide (dd="kind")))=true:=by simpa using b
   have :=of_decide_eq_true this;injection this
  refine⟨_,rfl,x,t.Form,dx,_,_,rfl,g,aH.cls,aH.parts,rfl, .inl ⟨rfl,_,bj.of F.parts⟩,_,rfl,p,_,_,rfl,rfl,F.parts,(by rw[sizeLine_eq];omega),?_⟩;exact q b _ ag (bM.upd _)
noncomputable def abc:Str:="abcdefghijklmnopqrstuvwxyz"
noncomputable def d9(c:Nat):Bool:=!(Builtin.Str.occurrences abc ⟨#[c]⟩ 0 abc.length 1).isEmpty
noncomputable def cG:D->Bool| .str x=>decide ((1:Int)<=x.length)&&(decide ((x.length:Int)<=12)&&((bg.lookup x).isNone&&x.cps.toList.all d9))|_=>false
def sM:Sp:=λvs H Q _=>∃d v,vs=[v]/\Rep H d v/\∀H',aD H H'->Q (.bl (cG d)) H'
theorem Bq(x:Str):((List.range x.cps.size).map λi=>V.bl (d9 ((x.cps[i]?).getD 0)))=(x.cps.toList.map d9).map V.bl:=by
 apply List.ext_getElem?;intro i;by_cases h:i<x.cps.size;·simp[h]
 ·simp[h]
theorem BF:aJ ["value"] ["value"] (aq gN):=⟨rfl,rfl,rfl,by decide+kernel,rfl,by decide+kernel,by decide+kernel⟩
theorem FN(D:Df K mg "is_name" gN ["value"])(M:Mg mg t){as:List Addr}(T:KD K t.kE bg as):da P w K mg cR "is_name" (1) ["value"] sM:=by
 refine D.ok BF (λvs H Q E h=>?_) (λbase f cH A outer s H vs Q E z h=>?_);·obtain⟨d,v,rfl,_⟩:=h;rfl
 obtain⟨d,v,rfl,r,q⟩:=h;refine⟨_,(ah (aS (L2.PW.pt (dN (lP (eF (aM mP rfl M.dE c_ (aa (pv 0) (aa (JY M.Kn BP rfl) af))))) (dH (lP (HM IJ IJ aj (aM fI rfl M.dj cu (aa (pv 0) af)) (kU M.g_MOST_LETTERS rfl)))))) (ao (aB wC)) aC) (ao (aB (ua (cM kC (pv 0) (bV M.g_KIDS_DUE rfl) rfl) (tN (aM (km rfl) rfl M.Qf Jd (aa (ky (N':=["sign"]) (own:=1) (fr:=[]) rfl (jF (N:=["value"]) (sc:=aq gN) rfl rfl rfl (by decide+kernel)) (IX (pv 0)) (fW (by decide)) (λ_ _ _=>(cL (i:=0) (show List.Nodup (["sign"]:List Str)by decide+kernel) rfl (Or.inl rfl))) (λ_ _ _=>qi) (λ_ _ _=>(cM wG (pv 0) (Es M.g_LETTERS rfl) rfl))) af))))))),?_⟩;try dsimp only[j6,y]
 refine vn ?_;intro _ _;refine⟨_,rfl,_,_,_,_,rfl,r.ty,Ng _ d,_,rfl,?_⟩;refine bz (λc=>bo ?_) (λc=>?_)
 ·have e:cG d=false:=by cases d<;>first|rfl|(simp[bO]at c)
  rw[e]at q;exact q H (aD.refl H)
 ·obtain⟨x,rfl⟩:∃x,d= .str x:=by cases d<;>first|exact⟨_,rfl⟩|(simp[bO]at c)
  obtain⟨rfl,u⟩:=r;have m:cG (.str x)=(decide ((1:Int)<=x.length)&&(decide ((x.length:Int)<=12)&&((bg.lookup x).isNone&&x.cps.toList.all d9))):=rfl;rw[m]at q;have k:x.length<=sizeLine:=dI u (by decide);refine⟨_,rfl,x,rfl,k,_,_,rfl,rfl,_,rfl,?_⟩;refine bz (λg=>?_) (λg=>⟨_,rfl,bo ?_⟩)
  ·refine⟨_,_,rfl,rfl,_,rfl,?_⟩;refine bz (λa=>?_) (λa=>?_)
   ·have a:decide ((x.length:Int)<=12)=false:=by simpa using a
    rw[a,Bool.false_and,Bool.and_false]at q;exact q H (aD.refl H)
   ·have a:decide ((x.length:Int)<=12)=true:=by simpa using a
    rw[g,a,Bool.true_and,Bool.true_and]at q;refine⟨_,rfl,x,_,_,rfl,rfl,T.tab,_,rfl,?_⟩;rw[T.jk];refine bz (λb=>?_) (λb=>?_)
    ·have b:(bg.lookup x).isNone=true:=by cases e:bg.lookup x<;>simp[e]at b⊢
     rw[b,Bool.true_and]at q;refine⟨_,rfl,x,rfl,λp o=>vJ x.cps.size (λi=>V.bl (d9 ((x.cps[i]?).getD 0))) o k (λi j hi s2=>⟨hi,?_⟩) λj s2 h2=>⟨bB _,p,x.cps.toList.map d9,rfl,bj.of (by rw[<-Bq];exact h2),?_⟩⟩;·rintro B l⟨rfl,c,hc,rfl⟩R n;refine⟨_,rfl,_,_,rfl,rfl,?_⟩;have :=n l (aD.refl _);rw[hc]at this;exact this
     ·have e:(x.cps.toList.map d9).all id=x.cps.toList.all d9:=by rw[List.all_map];rfl
      rw[e];exact q j s2
    ·have b:(bg.lookup x).isNone=false:=by cases e:bg.lookup x<;>simp[e]at b⊢
     rw[b,Bool.false_and]at q;exact q H (aD.refl H)
  ·have g:decide ((1:Int)<=x.length)=false:=Bool.eq_false_iff.mpr g;rw[g,Bool.false_and]at q;exact q H (aD.refl H)
noncomputable def iy:Nat->D|0=> .tup [.str "zero"]|n+1=> .tup [.str "next",iy n]
theorem Io:∀n:Nat,fz bO false (iy n)=true|0=>C8|n+1=>LQ (Io n)
theorem wz:∀n:Nat,depth (iy n)=n+1|0=>by simp[iy,depth,aO]|n+1=>by have :=wz n;simp only[iy,depth,aO];omega
theorem wx:∀n:Nat,bK (iy n)=n+1|0=>by simp[iy,bK,a_]|n+1=>by have :=wx n;simp only[iy,bK,a_];omega
def DK:Sp:=λvs H Q _=>∃n:Nat,vs=[.int (n:Nat)]/\n<=1000/\∀(v:V)(H':Hp),aD H H'->Rep H' (iy n) v->Q v H'
theorem gj:aJ ["number","thing","count"] ["number"] (aq g6):=⟨rfl,rfl,rfl,by decide+kernel,rfl,by decide+kernel,by decide+kernel⟩
theorem Bw(D:Df K mg "count_of" g6 ["number"])(M:Mg mg t):da P w K mg cR "count_of" (1) ["number"] DK:=by
 refine D.ok gj (λvs H Q E h=>?_) (λbase f cH A outer s H vs Q E x h=>?_);·obtain⟨n,rfl,_⟩:=h;rfl
 obtain⟨n,rfl,hn,q⟩:=h;refine⟨_,(ah (aE (i:=1) gj.nd rfl (dh rfl) (bQ (aa ai af))) (ah (h_ PassesOwn.never rfl (eN rfl M.fE (aa (pv 0) af)) (cL (i:=2) gj.nd rfl (dh rfl)) (ao (aE (i:=1) gj.nd rfl (dh rfl) (bQ (aa ai (aa (pv 1) af)))))) (ao (aB (pv 1))))),?_⟩;try dsimp only[j6,u]
 refine Ro ?_;intro _ _ _;refine⟨(dF rfl),λa o=>?_⟩;refine⟨_,rfl,_,rfl,(by show-(2^62)<=((n:Nat):Int);omega),(by show((n:Nat):Int)<2^62;omega),?_⟩;have k:=ak o (.tup [V.str "zero"]);have j:Rep (upd H a (.tup [V.str "zero"])) (iy 0) (.ref a):=⟨a,_,rfl,ag,_,_,rfl,⟨rfl,by decide+kernel⟩,rfl⟩;generalize upd H a (.tup [V.str "zero"])=H0 at k j⊢;let m:Nat->L2.St->Hp->Prop:=(λi d H'=>∃(v:V)(b:Option V),d=[some (.int (n:Nat)),some v,b]/\Rep H' (iy i) v/\aD H H');refine jG n m ?_ ?_ ?_;·exact⟨_,none,rfl,j,k⟩
 ·rintro i d e hi⟨v,b,rfl,c,s1⟩;refine⟨(by show i<((n:Nat):Int).toNat;omega),?_⟩;rintro y r⟨rfl,rfl⟩;refine⟨_,rfl,(dF rfl),λg p=>?_⟩;have l:=ak p (.tup [V.str "next",v]);exact⟨.ref g,_,rfl,⟨g,_,rfl,ag,⟨_,_,rfl,⟨rfl,by decide+kernel⟩,⟨_,_,rfl,c.mono l,rfl⟩⟩⟩,s1.trans l⟩
 ·rintro d e⟨v,b,rfl,c,s1⟩;exact⟨(by show((n:Nat):Int).toNat<=n;omega),_,rfl,q v e s1 c⟩
noncomputable def vw(c:Nat):Bool:=decide (48<=c)&&decide (c<=57)
noncomputable def jP(z:Str):Bool:=decide (z.length<=2)&&(z.cps.toList.all vw&&(match PySem.intText? z with|some n=>decide (Str.ofString (toString n)=z)&&decide (n<=39)|none=>false))
theorem SY(c:Nat):(!(Builtin.Str.occurrences (Str.ofString "0123456789") ⟨#[c]⟩ 0 (Str.ofString "0123456789").length 1).isEmpty)=vw c:=by rw[StrLaws.found_one,show(Str.ofString "0123456789").cps.toList=[48,49,50,51,52,53,54,55,56,57]by decide+kernel];unfold vw;rw[Bool.eq_iff_iff];simp;omega
theorem SQ:((List.range 10).all λa=>match PySem.intText? ⟨#[48+a]⟩with|some n=>decide (0<=n)&&decide (n<1000)|none=>false)=true:=by decide+kernel
theorem Ts:((List.range 10).all λa=>(List.range 10).all λb=>match PySem.intText? ⟨#[48+a,48+b]⟩with|some n=>decide (0<=n)&&decide (n<1000)|none=>false)=true:=by decide+kernel
theorem CK{z:Str}(h1:1<=z.length)(h2:z.length<=2)(hd:z.cps.toList.all vw=true):∃n:Int,PySem.intText? z=some n/\0<=n/\n<1000:=by
 have hl:=str_len z;have g:z=tx z.cps.toList:=(Ov z).symm;generalize z.cps.toList=l at hl hd g;have f:∀c,vw c=true->∃a,a<10/\c=48+a:=λc h=>by unfold vw at h;simp at h;exact⟨c-48,by omega,by omega⟩
 match l,hl,hd with
  |[c],hl,hd=>obtain⟨a,ha,rfl⟩:=f c (by simpa using hd);have :=List.all_eq_true.mp SQ a (List.mem_range.mpr ha);rw[g];show∃n:Int,PySem.intText? ⟨#[48+a]⟩=some n/\_;cases e:PySem.intText? ⟨#[48+a]⟩with|none=>rw[e]at this;cases this|some n=>rw[e]at this;simp at this;exact⟨n,rfl,this.1,this.2⟩
  |[c,d],hl,hd=>
   have hd:vw c=true/\vw d=true:=by simpa using hd
   obtain⟨a,ha,rfl⟩:=f c hd.1;obtain⟨b,hb,rfl⟩:=f d hd.2;have :=List.all_eq_true.mp (List.all_eq_true.mp Ts a (List.mem_range.mpr ha)) b (List.mem_range.mpr hb);rw[g];show∃n:Int,PySem.intText? ⟨#[48+a,48+b]⟩=some n/\_;cases e:PySem.intText? ⟨#[48+a,48+b]⟩with|none=>rw[e]at this;cases this|some n=>rw[e]at this;simp at this;exact⟨n,rfl,this.1,this.2⟩
  |[],hl,_=>simp at hl;omega
  |_::_::_::_,hl,_=>simp at hl;omega
theorem FU(x:Str):((List.range x.cps.size).map λi=>V.bl (vw ((x.cps[i]?).getD 0)))=(x.cps.toList.map vw).map V.bl:=by
 apply List.ext_getElem?;intro i;by_cases h:i<x.cps.size;·simp[h]
 ·simp[h]
def N3:Sp:=λvs H Q _=>∃z:Str,vs=[.str z]/\1<=z.length/\z.length<=100000/\∀H',aD H H'->Q (.bl (jP z)) H'
theorem x_:aJ ["word"] ["word"] (aq e_):=⟨rfl,rfl,rfl,by decide+kernel,rfl,by decide+kernel,by decide+kernel⟩
theorem AE(D:Df K mg "is_figure" e_ ["word"])(M:Mg mg t):da P w K mg cR "is_figure" (1) ["word"] N3:=by
 refine D.ok x_ (λvs H Q E h=>?_) (λbase f cH A outer s H vs Q E v h=>?_);·obtain⟨z,rfl,_⟩:=h;rfl
 obtain⟨z,rfl,h1,h2,q⟩:=h;have d:z.length<=sizeLine:=by rw[sizeLine_eq];omega
 refine⟨_,(ah (aS (L2.PW.pt (dN (ar mw (aM fI rfl M.dj cu (aa (pv 0) af)) aj (az _)) (dH (lP (eF (aM (km rfl) rfl M.Qf Jd (aa (ky (N':=["sign"]) (own:=1) (fr:=[]) rfl (jF (N:=["word"]) (sc:=aq e_) rfl rfl rfl (by decide+kernel)) (IX (pv 0)) (fW (by decide)) (λ_ _ _=>(cL (i:=0) (show List.Nodup (["sign"]:List Str)by decide+kernel) rfl (Or.inl rfl))) (λ_ _ _=>qi) (λ_ _ _=>(cM wG (pv 0) (Es M.g_FIGURES rfl) rfl))) af))))))) (ao (aB wC)) aC) (ao (aB (ua (cM aN (cQ wa rfl M.Kn BP (aa (cQ lH rfl M.vC lN (aa (pv 0) af)) af)) (pv 0) (az _)) (tN (cM IJ (cQ lH rfl M.vC lN (aa (pv 0) af)) (kU M.g_MOST_FIGURE rfl) (az _))))))),?_⟩;try dsimp only[j6,u]
 refine vn ?_;intro _ _;refine⟨_,rfl,z,rfl,d,_,_,rfl,rfl,_,rfl,bz (λc=>bo ?_) (λc=>?_)⟩
 ·have c:(2:Int)<((z.length:Nat):Int):=of_decide_eq_true c;have e:jP z=false:=by unfold jP;rw[decide_eq_false (by omega),Bool.false_and]
  have :=q H (aD.refl H);rw[e]at this;exact this
 have c:¬(2:Int)<((z.length:Nat):Int):=of_decide_eq_false (Bool.eq_false_iff.mpr c);have j:jP z=(z.cps.toList.all vw&&(match PySem.intText? z with|some n=>decide (Str.ofString (toString n)=z)&&decide (n<=39)|none=>false)):=by unfold jP;rw[decide_eq_true (by omega),Bool.true_and]
 rw[j]at q;refine⟨_,rfl,z,rfl,λp o=>vJ z.cps.size (λi=>V.bl (vw ((z.cps[i]?).getD 0))) o d (λi a hi s2=>⟨hi,?_⟩) λa s2 h2=>⟨bB _,p,z.cps.toList.map vw,rfl,bj.of (by rw[<-FU];exact h2),?_⟩⟩;·rintro C g⟨rfl,c,hc,rfl⟩R m;refine⟨_,rfl,_,_,rfl,rfl,?_⟩;have :=m g (aD.refl _);rw[hc]at this;rw[SY];exact this
 ·have e:(z.cps.toList.map vw).all id=z.cps.toList.all vw:=by rw[List.all_map];rfl
  rw[e];refine⟨_,rfl,?_⟩;cases hd:z.cps.toList.all vw with
   |false=>have :=q a s2;rw[hd,Bool.false_and]at this;exact bo this
   |true=>
    obtain⟨n,hn,x,B⟩:=CK h1 (by omega) hd;have :=q a s2;rw[hd,Bool.true_and,hn]at this;have this:Q (V.bl (decide (Str.ofString (toString n)=z)&&decide (n<=39))) a:=this;have r:n.natAbs.log2<1920:=by
     have :n.natAbs<2^10:=by omega
     have :=Nat.log2_lt (n:=n.natAbs) (k:=10);by_cases b:n.natAbs=0;·rw[b];decide
     ·have :=(Nat.log2_lt b).mpr ‹n.natAbs<2^10›;omega
    refine cB ⟨_,rfl,z,n,rfl,hn,(by omega),n,rfl,r,_,rfl,rfl,_,rfl,?_⟩;have l:decide (V.str (Str.ofString (toString n))=V.str z)=decide (Str.ofString (toString n)=z):=by
     by_cases h:Str.ofString (toString n)=z;·rw[h];simp
     ·rw[decide_eq_false h];exact decide_eq_false λy=>h (by injection y)
    rw[l];cases h3:decide (Str.ofString (toString n)=z)with|false=>rw[h3,Bool.false_and]at this;exact cB this|true=>rw[h3,Bool.true_and]at this;exact bo ⟨_,rfl,z,n,rfl,hn,(by omega),_,_,rfl,rfl,this⟩
theorem KC{z:Str}(h1:1<=z.length)(h:jP z=true):∃n:Nat,n<=39/\PySem.intText? z=some ((n:Nat):Int)/\z=Str.ofString (toString ((n:Nat):Int))/\z.length<=2:=by unfold jP at h;rw[bW,bW]at h;obtain⟨n,hn,a,b⟩:=CK h1 (of_decide_eq_true h.1) h.2.1;have h3:=h.2.2;rw[hn]at h3;have h3:(decide (Str.ofString (toString n)=z)&&decide (n<=39))=true:=h3;rw[bW]at h3;obtain⟨k,rfl⟩:∃k:Nat,n=(k:Nat):=⟨n.toNat,by omega⟩;exact⟨k,by have :=of_decide_eq_true h3.2;omega,hn,(of_decide_eq_true h3.1).symm,of_decide_eq_true h.1⟩
theorem BU:aJ ["word","forms","names"] ["word","forms","names"] (aq je):=⟨rfl,rfl,rfl,by decide+kernel,rfl,by decide+kernel,by decide+kernel⟩
end K54
end
section
namespace L3
open PySem PySem.Spec PyProof.Rows L2 KM
end L3
end
section
namespace L3
open PySem PySem.Spec PyProof.Rows L2
section
variable{prog:Program}{w:World}{A:Around}{E:Value->Shared->Prop}{s:Shared}
theorem xy{it l:Addr}{Q:Option Value->Shared->Prop}(hb:HB s.heap A)(c:s.heap.IsRevIter it l (-1))(d:∀h',Heap.ExtBut it s.heap h'->Q none {s with heap:=h'}):wpAny (model prog w) A (pyNext (.ref it)) Q E s:=by obtain⟨o,g,hc,hd⟩:=id c;unfold pyNext;refine aw (wpAny_attempt (wpAny_callSpecial?_slot (name:=Str.ofString "__next__") c.typeIs F.slot_lri_next (wpAny_call_entry F.slot_lri_next c.typeIs F.entry_lri_next ?_ (F.args_lri_next_1 _))));unfold Builtin.«list_reverseiterator.__next__»;refine aw (wpAny_of_eq (a:=(Value.ref it,[])) rfl ?_);dsimp only;refine aw (wpAny_field g hd (x:=rawInt (-1)) rfl ?_);show wpAny _ _ (if(-1:Int)<0 then _ else _) _ _ s;rw[if_pos (by decide)];refine aw (wpAny_rule ?_);refine aw ?_;exact fK (A:=A.in1) hb λh1 e k f=>aw (i0 f (bf (d h1 λb o _ h=>k b o h)))
end
noncomputable def Itv(K:PySem.W.Frag)(a:Addr)(n:Nat):It:=⟨λi H=>i<n/\∃xs,bj K H a xs/\xs.length=n,λi H x H'=>H'=H/\∀xs,bj K H a xs->xs[n-1-i]?=some x,λi H=>i=n⟩
theorem IK{P:Program}{w:World}{K:PySem.W.Frag}{tg:Expr}(a it:Addr)(n:Nat):Turn P w K tg (Itv K a n) [it] it (λi h=>h.IsRevIter it a ((n:Int)-1-(i:Int)))where
 mem:=by simp
 obj:=λi h st b hb=>by
  have e:b=it:=by simpa using hb
  subst e;obtain⟨o,e,c,d⟩:=st;exact⟨o,e,λv z=>by rw[d]at z;cases z⟩
 keep:=λi h h' st k=>st.at λo e=>k it (by simp) o e;item:=by
  intro X y hw t hc i pins s σ H E I f st g;subst y hw t;obtain⟨hi,xs,hq,hn⟩:=g;obtain⟨its,N,p,O⟩:=I.list hq;have B:xs[n-1-i]?=some (xs[n-1-i]'(by lia)):=cN (by lia);obtain⟨u,J,M⟩:=N.get B;obtain⟨j,l,G,m,q,r⟩:=f it (by simp);have e:(n:Int)-1-(i:Int)=((n-1-i:Nat):Int):=by lia
  have st:s.heap.IsRevIter it a ((n-1-i:Nat):Int):=by rw[<-e];exact st
  refine wpAny_pyNext_rev_item st p.isList (x:=u) (by simpa using J) λh' A sb=>?_;have C:Inv X pins σ H {s with heap:=h'}:=I.turned (t':=s.toks) (λb o hb e=>(sb.2 b hb).trans e) j l m q r;have D:((n-1-i:Nat):Int)-1=(n:Int)-1-((i+1:Nat):Int):=by lia
  rw[D]at A;obtain⟨o,e,c,d⟩:=id A;exact⟨u,rfl,A_ (s:={s with heap:=h'}) e c d (by decide) ⟨_,H,C,M,⟨rfl,λys L=>by rw[I.AI L hq];exact B⟩,A,λb hb=>(f b hb).1⟩⟩
 done:=by
  intro X y hw t hc i pins s σ H E I f st g;subst y hw t;obtain⟨j,l,G,m,q,r⟩:=f it (by simp);have g:i=n:=g;have e:(n:Int)-1-(i:Int)=-1:=by lia
  have st:s.heap.IsRevIter it a (-1):=by rw[<-e];exact st
  exact xy (I.hb hc) st λh' F=>⟨rfl,I.turned (t':=s.toks) (λb o hb e=>F b o hb e) j l m q r⟩
 self:=λ_ _ _ _ _ st h=>wpAny_pyIter_revIter st h
noncomputable def ZR(K:PySem.W.Frag)(c:TA):TI:=λσ H R=>c σ H λvs b=>∃a xs,vs=[.ref a]/\bj K b a xs/\R (Itv K a xs.length) b
theorem RS{X:Cx}{tg:Expr}{a:Expr}{g:TA}{p f:Pos}(l:Gl X "reversed")(hm:X.mg "reversed"=none)(ha:PA X [a] g)(m:starEach [a] X.env=[(false,eval a X.env)]:=by rfl):PI X tg (.Call (.Name "reversed" p) [a] [] f) (ZR X.K g):=by
 intro pins s σ H R I h;refine Call_ (jS I l hm boot_reversed (PyProof.Rows.callWith_type1 (bR (ha f pins s σ H _ I h) λus s1⟨vs,j,c,t,r⟩=>?_) (by rw[m];rfl) (by rfl)));obtain⟨a1,xs,e,k1,q⟩:=r;subst e;obtain⟨w,rfl,u⟩:=Vals.one t;cases u;obtain⟨d,v,n,_⟩:=c.list k1;refine call_reversed_list n.isList ?_;have k:((d.toArray.size:Nat):Int)-1=((xs.length:Nat):Int)-1-((0:Nat):Int):=by rw[dt,<-v.length];lia
 have i:({s1 with heap:=s1.heap.push (revObj a1 (((d.toArray.size:Nat):Int)-1))}:Shared).heap.IsRevIter s1.heap.objs.size a1 (((xs.length:Nat):Int)-1-((0:Nat):Int)):=by rw[<-k];exact⟨_,gU _ rfl,rfl,rfl⟩
 refine wpAny_pyIter_revIter i ?_;refine⟨s1.heap.objs.size,[s1.heap.objs.size],_,_,j,rfl,c.kept (t':=s1.toks) λb o e=>cW _ e,IK a1 _ xs.length,i,λb hb=>?_,q⟩;have e:b=s1.heap.objs.size:=by simpa using hb
 subst e;exact c.Kp (bB _) (c.cI.fresh (bB _))
theorem jL(k:Str):∀{vs:List Value}{ns:List Str},StrsAre vs ns->∀(j:Nat)(h1:j<vs.length)(h2:j<ns.length),isStrOf k vs[j]=(ns[j]==k)|_,_, .cons n t _,0,_,_=>rfl|_,_, .cons n t r,j+1,h1,h2=>jL k r j (Nat.lt_of_succ_lt_succ h1) (Nat.lt_of_succ_lt_succ h2)
theorem uw{k:Str}:∀{ns:List Str}{j:Nat},j<ns.idxOf k->∀(h2:j<ns.length),(ns[j]==k)=false
 |n::r,0,h,_=>by
  by_cases e:n=k;·subst e;simp at h
  ·simpa using e
 |n::r,j+1,h,h2=>by
  by_cases e:n=k;·subst e;simp at h
  ·have hb:(n==k)=false:=by simpa using e
   have h':j<r.idxOf k:=by rw[List.idxOf_cons,hb]at h;exact Nat.lt_of_succ_lt_succ h
   exact uw h' (Nat.lt_of_succ_lt_succ h2)
noncomputable def NG(K:PySem.W.Frag):V->List V->Hp->VK->Prop:=λx vs H Q=>∃(l:Addr)(ys:List Str)(y:Str),x= .ref l/\vs=[.str y]/\bj K H l (ys.map V.str)/\y∈ys/\ys.length<=100000/\Q (.int (ys.idxOf y:Nat)) H
theorem vG{X:Cx}:Zb X "list.index" (NG X.K):=by
 intro pins s σ H x vs v us Q I k i h;obtain⟨l,ys,y,rfl,rfl,hq,f,hn,q⟩:=h;cases k;obtain⟨u,rfl,g⟩:=i.one;obtain⟨tk,rfl⟩:=(show∃t,u=Value.str y t from g);obtain⟨its,r,pl,c⟩:=I.list hq;have hi:=Ak r;obtain⟨⟨cls,dd,data,sl⟩,b,hc,n,hd⟩:=id pl.isList;simp only at hc hd;subst hc hd;have hlen:its.length=ys.length:=by rw[<-r.length,bT]
 have a:ys.idxOf y<ys.length:=List.idxOf_lt_length_iff.mpr f;refine call_meets PySem.F.slot_list_index ⟨_,b,rfl⟩ PySem.F.entry_list_index (PySem.F.args_list_index_2 _ _) (SeqAt.list_indexAt l its.toArray n dd sl (.str y tk) (isStrOf y) (ys.idxOf y) (by simpa[hlen]using a) (by lia) ?_ ?_) ⟨b,λz c=>(eq_isStrOf y tk hi z (by simpa using c)).at _ _,⟨.int (ys.idxOf y:Nat),H,I.tok _,⟨_,rfl⟩,q⟩⟩;·show isStrOf y its[ys.idxOf y]=true;rw[jL y hi _ (by lia) a];simpa using List.getElem_idxOf a
 ·intro j d e;show isStrOf y its[j]=false;rw[jL y hi j (by simpa using d) (by lia)];exact uw e _
theorem Qn{X:Cx}{CX:nU}{x:Str}{k:Nat}{ps:List Str}{sp:Sp}{E:XK}{p i:Pos}(F:da X.prog X.w X.K X.mg CX x k ps sp)(d:cV k X.A)(c:Gl X x)(g:Passes CX X E)(a:(x==("__debug__":Str))=false:=by decide)(hc:X.calm=true:=by rfl):PE X (.Call (.Name x p) [] [] i) (mV sp [] E iB):=by obtain⟨f,fd,F,m,kp,b⟩:=F;intro pins s σ H Q I h;refine wpAny_Call_Name_kw (gy I c m ?_ a);have q:sp [] H Q E:=h;exact PySem.W.callWith_K0 (first:=[]) I.ic kp (ka (us:=[]) (vs:=[]) F d b I hc (λe s' hc=>g pins σ H s e s' I hc) .nil q)
end L3
end
section
namespace K54
open PySem L2 L3 KM PyProof.Rows
seal L2.PE L2.PS L2.jx L2.PT L2.PW L2.PA L2.PG L2.G0 L2.PI L2.PC L2.PO L2.G3 L2.PK L3.Ba L3.LD L3.L6 L3.lA L3.W3
variable{P:Program}{w:World}{K:PySem.W.Frag}{mg:Str->Option Value}{base:Heap}{t:y_}
structure Fo where
 word:Str
 name:Option Str
 gT:List Str
 parts:List D
noncomputable def T5:Option Str->V|none=> .bU|some z=> .str z
noncomputable def uy(f:Fo):Bool:=f.name.isSome&&decide (gw f.word= .int (f.parts.length:Nat))
def Xa(K:PySem.W.Frag)(C:Addr):Sp:=λvs H Q _=>∃(x p:Addr)(w:Str)(n:Option Str)(ds ps:List V),vs=[.ref x]/\Fm K C H x (.str w) (T5 n) ds p ps/\(n.isSome=true->∃i:Int,KTD.datumAt w BO=some (.int i))/\Q (.bl (n.isSome&&decide (gw w= .int (ps.length:Nat)))) H
theorem jX:aJ ["self"] ["self"] (aq bx):=⟨rfl,rfl,rfl,by decide+kernel,rfl,by decide+kernel,by decide+kernel⟩
theorem c_Form_binds_here(D:Dm K t.Form "binds_here" "Form.binds_here" bx ["self"])(M:Mg mg t)(aH:nq K t.Form)(B:k_ K t.gg BO):jq P w K mg cR t.Form "binds_here" (1) ["self"] (Xa K t.Form):=by
 refine D.ok jX (λvs H Q E h=>?_) (λbase f cH A outer s H vs Q E c h=>?_);·obtain⟨x,p,w,n,ds,ps,rfl,_⟩:=h;rfl
 obtain⟨x,p,w,n,ds,ps,rfl,F,hb,q⟩:=h;obtain⟨dx,d,a,hd⟩:=F.obj;refine⟨_,(ao (aB (ua (cM MI (eJ (pv 0) rfl) yt (az _)) (tN (cM aN (TJ (bV M.g_BINDER_OVER rfl) (eJ (pv 0) rfl) (λ_ _=>rfl)) (aM aL rfl M.dj cu (aa (eJ (pv 0) rfl) af)) (az _)))))),?_⟩;try dsimp only[j6,b]
 refine⟨_,rfl,x,t.Form,dx,_,_,rfl,a,aH.cls,aH.name,rfl,rfl,?_⟩;cases n with
  |none=>exact⟨_,rfl,cB q⟩
  |some z=>
   obtain⟨i,hi⟩:=hb rfl;refine⟨_,rfl,bo ?_⟩;refine⟨_,rfl,x,t.Form,dx,_,_,rfl,a,aH.cls,aH.word,rfl,_,_,w,_,rfl,rfl,B,hi,_,rfl,x,t.Form,dx,_,_,rfl,a,aH.cls,aH.parts,rfl,p,_,rfl, .inl (bj.of F.parts),rfl,?_⟩;have e:gw w= .int i:=by unfold gw;rw[hi];rfl
   rw[e]at q;exact q
def zW(K:PySem.W.Frag)(C N:Addr):Sp:=λvs H Q E=>∃(x p:Addr)(w n:V)(ds ps:List V),vs=[.ref x]/\Fm K C H x w n ds p ps/\ps.length<=100/\(ps.length≠ds.length->E (.ref N) none H)/\(ps.length=ds.length->∀(q:Addr)(H':Hp),H' q=some (.tup (w::ps))->aD H H'->Q (.ref q) H')
theorem uA:aJ ["self"] ["self"] (aq b7):=⟨rfl,rfl,rfl,by decide+kernel,rfl,by decide+kernel,by decide+kernel⟩
theorem c_Form_closed(D:Dm K t.Form "closed" "Form.closed" b7 ["self"])(M:Mg mg t)(aH:nq K t.Form)(k:lO K t.aU)(o:jq P w K mg cR t.Form "is_full" (1) ["self"] (zc K t.Form)):jq P w K mg (gK P w) t.Form "closed" (2) ["self"] (zW K t.Form t.aU):=by
 refine D.O8 uA (λvs H Q E h=>?_) (λbase f cH A outer s H vs Q E v h=>?_);·obtain⟨x,p,w,n,ds,ps,rfl,_⟩:=h;rfl
 obtain⟨x,p,w,n,ds,ps,rfl,F,hl,r,q⟩:=h;obtain⟨dx,d,g,hd⟩:=id F.obj;refine⟨_,(ah (aS (lP (eF (tX o aH.cls v.m bh (pv 0)))) (ao (ej (G:=(λH'=>E (.ref t.aU) none H')) k M.g_NoText (aa ai af) (λpins σ H s e h' I m q=>fF I m q))) aC) (ao (aB (ay DL (bQ (aa (eJ (pv 0) rfl) af)) (cQ jy rfl M.yy sv (aa (eJ (pv 0) rfl) af)))))),?_⟩;try dsimp only[j6,B]
 refine vn ?_;intro _ _;have C:(decide (ps.length=ds.length))=true↔ps.length=ds.length:=decide_eq_true_iff;refine⟨_,rfl,x,dx,_,rfl,g,rfl,x,p,w,n,ds,ps,rfl,F,_,rfl,?_⟩;by_cases c:ps.length=ds.length;·rw[decide_eq_true c];refine cB ⟨_,rfl,x,t.Form,dx,_,_,rfl,g,aH.cls,aH.word,rfl,(dF rfl),λa u=>?_⟩;have b:=ak u (.tup [w]);have i:(upd H a (.tup [w])) a=some (.tup [w]):=ag;generalize upd H a (.tup [w])=z at b i⊢;refine⟨_,rfl,x,t.Form,dx,_,_,rfl,b _ _ g,aH.cls,aH.parts,rfl,p,_,rfl, .inl ⟨bj.of (b _ _ F.parts),λl hl=>?_⟩⟩;have j:=ak hl (.tup ps);exact⟨a,l,[w],ps,rfl,rfl,j _ _ i,ag,(by rw[sizeLine_eq,List.length_singleton];omega),λy H' s h'=>q c y H' h' (b.trans (j.trans s))⟩
 ·rw[decide_eq_false c];exact bo ⟨by decide,r c⟩
noncomputable def vS:V->Str| .str x=>x|_=>""
noncomputable def bq(x:Str):List Str:=((bg.lookup x).getD []).map vS
theorem MM:(bg.all λr=>r.2.all λv=>decide (V.str (vS v)=v))=true:=by decide+kernel
theorem MQ(x:Str):(bq x).map V.str=(bg.lookup x).getD []:=by
 have d:∀a:List (Str×List V),(a.all λr=>r.2.all λv=>decide (V.str (vS v)=v))=true->(((a.lookup x).getD []).map vS).map V.str=(a.lookup x).getD []:=λa=>by
  induction a with
   |nil=>intro _;rfl
   |cons r a c=>
    intro h;rw[List.all_cons,bW]at h;rw[jg];split
    ·show(r.2.map vS).map V.str=r.2;rw[List.map_map];conv=>rhs;rw[<-List.map_id r.2]
     exact List.map_congr_left λv b=>of_decide_eq_true (List.all_eq_true.mp h.1 v b)
    ·exact c h.2
 exact d bg MM
theorem Ar(x:Str):(bq x).length<=4:=by
 have :(bg.all λr=>decide (r.2.length<=4))=true:=by decide+kernel
 unfold bq;rw[bT];cases e:bg.lookup x with
  |none=>exact fV _
  |some ds=>
   have h:∀a:List (Str×List V),a.lookup x=some ds->∃r∈a,r.2=ds:=λa=>by
    induction a with
     |nil=>intro h;cases h
     |cons r a b=>
      intro h;rw[jg]at h;split at h;·exact⟨r,b5,Option.some.inj h⟩
      ·obtain⟨q,h1,h2⟩:=b h;exact⟨q,cU _ h1,h2⟩
   obtain⟨r,h1,rfl⟩:=h bg e;exact of_decide_eq_true (List.all_eq_true.mp this r h1)
noncomputable def lG(a:List Str):Str:=a.headD ""
noncomputable def cC(a:List Str):Option Fo:=if bq (lG a)=[]then none else if jk (lG a) BO=false then some ⟨lG a,none,bq (lG a),[]⟩else match a with|[_,n]=>if cG (.str n)=true then some ⟨lG a,some n,bq (lG a),[]⟩else none|_=>none
theorem Dt{C:Addr}{H:Hp}{w n d:V}{Q:VK}{E:XK}(k:∀(x dx p:Addr)(H':Hp),aD H H'->H x=none->H p=none->x≠p->H' x=some (.ins C dx (YN w n d p))->H' p=some (.lst [])->Q (.ref x) H'):∀(x dx:Addr){o:HO},H x=none->H dx=none->x≠dx->yq C [.ref x,w,n,d] (upd (upd H dx o) x (.ins C dx [])) (λr H'=>r= .bU/\Q (.ref x) H') E:=λx dx o f c s=>⟨x,dx,w,n,d,rfl,ag,λp j a i l m keep=>⟨rfl,k x dx p j (λb ob h=>by have g:b≠x:=aI h f;have q:b≠dx:=aI h c;exact keep b ob g (by rw[bc g,bc q];exact h)) f (by
 rw[bc i]at a;by_cases e:p=dx;·rw[e];exact c
 ·rw[bc e]at a;exact a) i.symm m l⟩⟩
theorem Tg{a:Addr}{as:List Addr}(T:KD K a bg as)(x:Str){H:Hp}{c:Addr}(h:H c=some (.tup [])):∃d:Addr,(KTD.datumAt x ((bg.zip as).map λp=>(p.1.1,V.ref p.2))).getD (.ref c)= .ref d/\gG K H d ((bg.lookup x).getD []):=by
 cases e:bg.lookup x with
  |some ds=>obtain⟨b,h1,h2⟩:=T.some e;exact⟨b,by rw[h1];rfl,h2 H⟩
  |none=>
   rcases jf (x:=x) (λp=>V.ref p.2) bg as T.len with⟨r,b,h1,h2,h3,h4⟩|⟨_,h2⟩;·rw[e]at h3;cases h3
   ·exact⟨c,by rw[h2];rfl,gG.of h⟩
theorem pick{c:Bool}{T1 T2:VK->Prop}{G:VK}{v:V}{H:Hp}(h1:c=true->∀R:VK,R v H->T1 R)(h2:c=false->∀R:VK,R v H->T2 R)(h:G v H):if c=true then T1 G else T2 G:=by cases c with|true=>exact bo (h1 rfl G h)|false=>exact cB (h2 rfl G h)
def Aj(K:PySem.W.Frag)(C N:Addr):Sp:=λvs H Q E=>∃(a:Addr)(b:List Str),vs=[.ref a]/\H a=some (.lst (b.map V.str))/\b.length<=2/\(∀z∈b,z.length<=1000)/\(cC b=none->∀H',aD H H'->E (.ref N) none H')/\∀fo:Fo,cC b=some fo->∀(x p:Addr)(H':Hp),aD H H'->H x=none->H p=none->x≠p->Fm K C H' x (.str fo.word) (T5 fo.name) (fo.gT.map V.str) p []->Q (.ref x) H'
theorem jH:aJ ["head","word","due"] ["head"] (aq ja):=⟨rfl,rfl,rfl,by decide+kernel,rfl,by decide+kernel,by decide+kernel⟩
theorem GP(D:Df K mg "form_of" ja ["head"])(M:Mg mg t)(cY:lO K t.aU){as:List Addr}(T:KD K t.kE bg as)(B:k_ K t.gg BO)(lr:da P w K mg cR "is_name" (1) ["value"] sM)(gs:Nc P w K mg "Form" t.Form 1 ["self","word","name","due"] (yq t.Form)):da P w K mg (gK P w) "form_of" (3) ["head"] (Aj K t.Form t.aU):=by
 refine D.O8 jH (λvs H Q E h=>?_) (λbase f cH A outer s H vs Q E O h=>?_);·obtain⟨a,b,rfl,_⟩:=h;rfl
 obtain⟨a,b,rfl,ha,hl,U,u,q⟩:=h;refine⟨_,(ah (aE (i:=1) jH.nd rfl (dh rfl) (tW (ar mw (aM aL rfl M.dj cu (aa (pv 0) af)) aj (az _)) (aZ aP (pv 0) aj (λ_ _=>rfl)) ai)) (ah (aE (i:=2) jH.nd rfl (dh rfl) (IE (bV M.g_KIDS_DUE rfl) (pv 1) (bQ af) ⟨rfl,rfl,rfl,rfl⟩)) (ah (aS (ar aN (aM aL rfl M.dj cu (aa (pv 2) af)) aj (az _)) (ao (ej (G:=(λH'=>E (.ref t.aU) none H')) cY M.g_NoText (aa ai af) (λpins σ H s e h' I m q=>fF I m q))) aC) (ah (aS (ar kC (pv 1) (bV M.g_BINDER_OVER rfl) rfl) (ao (aB (BE gs O.m rfl bh (aa (pv 1) (aa yt (aa (pv 2) af)))))) aC) (ah (aS (L2.PW.pt (dN (ar Ei (aM aL rfl M.dj cu (aa (pv 0) af)) aj (az _)) (dH (lP (eF (bA lr O.m rfl bh (aa (aZ aP (pv 0) aj (λ_ _=>rfl)) af))))))) (ao (ej (G:=(λH'=>E (.ref t.aU) none H')) cY M.g_NoText (aa ai af) (λpins σ H s e h' I m q=>fF I m q))) aC) (ao (aB (BE gs O.m rfl bh (aa (pv 1) (aa (aZ aP (pv 0) aj (λ_ _=>rfl)) (aa (pv 2) af))))))))))),?_⟩;try dsimp only[j6,eC]
 refine RE ?_;intro _ _ _ _ _ _;refine⟨_,rfl,a,_,rfl, .inl (bj.of ha),_,_,rfl,rfl,_,rfl,?_⟩;refine pick (T1:=λG=>fJ (BJ K) (bX 0) (tC (.int 0)) _ H G) (T2:=λG=>tC (.str "") _ H G) (v:= .str (lG b)) (H:=H) (λc R h=>?_) (λc R h=>?_) ?_;·cases b with|nil=>cases c|cons z r=>exact⟨_,rfl,a,_,_,_,rfl,rfl,bj.of ha,aG (j:=0) rfl,h⟩
 ·cases b with|nil=>exact h|cons z r=>exact absurd c (by simp)
 refine⟨_,_,rfl,T.tab,_,rfl,(dF rfl),λZ C7=>⟨_,rfl,?_⟩⟩;have k:=ak C7 (.tup []);obtain⟨d,hd,hq⟩:=Tg T (lG b) (show(upd H Z (.tup [])) Z=some (.tup [])from ag);rw[hd,<-MQ]at*;generalize upd H Z (.tup [])=C at k hq⊢;clear C7;have F:=k _ _ ha;refine⟨_,rfl,d,_,rfl, .inr hq,rfl,_,rfl,?_⟩;have el:decide (V.int (((bq (lG b)).map V.str).length:Nat)=V.int 0)=decide (bq (lG b)=[]):=by generalize bq (lG b)=l;cases l with|nil=>rfl|cons a l=>exact(decide_eq_false λz=>by have z:=V.int.inj z;simp only[bT,bD]at z;omega).trans (decide_eq_false (by simp)).symm
 rw[el];have fin:∀(fo:Fo)(W:V),cC b=some fo->fo.word=lG b->fo.gT=bq (lG b)->T5 fo.name=W->∀(x dx p:Addr)(H':Hp),aD C H'->C x=none->C p=none->x≠p->H' x=some (.ins t.Form dx (YN (.str (lG b)) W (.ref d) p))->H' p=some (.lst [])->Q (.ref x) H':=by
  intro fo W e1 e2 e3 e4 x dx p H' s y L Y S N;refine q fo e1 x p H' (k.trans s) (k.free y) (k.free L) Y ⟨⟨dx,d,by rw[e2,e4];exact S,?_⟩,N⟩;rw[e3];rcases hq with h|h;·exact .inl (h.imp (λh=>s _ _ h) λ⟨o,h⟩=>⟨o,s _ _ h⟩)
  ·exact .inr h
 by_cases g:bq (lG b)=[];·rw[decide_eq_true g];exact bo ⟨by decide,u (by unfold cC;rw[if_pos g]) C k⟩
 rw[decide_eq_false g];refine cB ⟨_,rfl,_,_,_,rfl,rfl,B,_,rfl,?_⟩;cases hb:jk (lG b) BO with
  |false=>refine bo ⟨_,rfl,_,rfl,λx dx y J X=>Dt (fin ⟨lG b,none,bq (lG b),[]⟩ .bU (by unfold cC;rw[if_neg g,if_pos hb]) rfl rfl rfl) x dx y J X.symm⟩
  |true=>
   refine cB ?_;refine⟨_,rfl,a,_,rfl, .inl (bj.of F),_,_,rfl,rfl,_,rfl,?_⟩;match b,hl,U,F,u,fin,g,hb with
    |[],_,_,_,u,_,g,hb=>exact bo (bo ⟨by decide,u (by unfold cC;rw[if_neg g,if_neg (by rw[hb];decide)]) C k⟩)
    |[z],_,_,_,u,_,g,hb=>exact bo (bo ⟨by decide,u (by unfold cC;rw[if_neg g,if_neg (by rw[hb];decide)]) C k⟩)
    |[z,n],_,U,F,u,fin,g,hb=>refine cB ⟨_,rfl,a,_,_,_,rfl,rfl,bj.of F,aG (j:=1) rfl, .str n, .str n,rfl,⟨rfl,U n (by simp)⟩,λH2 s2=>⟨_,rfl,?_⟩⟩;cases hn:cG (.str n)with|false=>exact bo ⟨by decide,u (by unfold cC;rw[if_neg g,if_neg (by rw[hb];decide)];show(if cG (.str n)=true then _ else _)=none;rw[hn];rfl) H2 (k.trans s2)⟩|true=>refine cB ⟨_,rfl,_,rfl,a,_,_,_,rfl,rfl,bj.of (s2 _ _ F),aG (j:=1) rfl,_,rfl,λx dx y J X=>Dt (λx dx p H' s y L Y S N=>fin ⟨lG [z,n],some n,bq (lG [z,n]),[]⟩ (.str n) (by unfold cC;rw[if_neg g,if_neg (by rw[hb];decide)];show(if cG (.str n)=true then _ else _)=_;rw[hn];rfl) rfl rfl rfl x dx p H' (s2.trans s) (s2.free y) (s2.free L) Y S N) x dx y J X.symm⟩
    |_::_::_::_,hl,_,_,_,_,_,_=>simp at hl
noncomputable def xF(z:Str)(names:List Str):List Fo->Nat->D|[],b=>if z∈names then .tup [.str "var", .int ((b+names.idxOf z:Nat):Int)]else .tup [.str "name", .str z]|f::r,b=>if uy f=true then(if f.name=some z then .tup [.str "var", .int (b:Nat)]else xF z names r (b+1))else xF z names r b
def M4(K:PySem.W.Frag)(C:Addr)(H:Hp)(x p:Addr)(f:Fo):Prop:=(∃ps,Fm K C H x (.str f.word) (T5 f.name) (f.gT.map V.str) p ps/\bS H f.parts ps)/\(f.name.isSome=true->∃i:Int,KTD.datumAt f.word BO=some (.int i))
def CV(K:PySem.W.Frag)(C:Addr):Sp:=λvs H Q E=>∃(a b:Addr)(z:Str)(st:List (Addr×Addr×Fo))(names:List Str),vs=[.str z, .ref a, .ref b]/\H a=some (.lst ((st.map λq=>V.ref q.1).reverse))/\st.length<=100000/\(∀q∈st,M4 K C H q.1 q.2.1 q.2.2)/\bj K H b (names.map V.str)/\names.length<=1000/\z.length<=1000/\∀(v:V)(H':Hp),aD H H'->Rep H' (xF z names (st.map (·.2.2)) 0) v->Q v H'
theorem eA:aJ ["word","forms","names","binders","form"] ["word","forms","names"] (aq eO):=⟨rfl,rfl,rfl,by decide+kernel,rfl,by decide+kernel,by decide+kernel⟩
theorem u_(D:Df K mg "thing_named" eO ["word","forms","names"])(M:Mg mg t)(aH:nq K t.Form)(B:jq P w K mg cR t.Form "binds_here" (1) ["self"] (Xa K t.Form)):da P w K mg cR "thing_named" (2) ["word","forms","names"] (CV K t.Form):=by
 refine D.ok eA (λvs H Q E h=>?_) (λbase f cH A outer s H vs Q E S h=>?_);·obtain⟨a,b,z,st,names,rfl,_⟩:=h;rfl
 obtain⟨a,b,z,st,names,rfl,ha,EH,J,hb,LB,U,q⟩:=h;refine⟨_,(ah (aE (i:=3) eA.nd rfl (dh rfl) aj) (ah (h_ PassesOwn.never rfl (RS rfl M.Bh (aa (pv 1) af)) (cL (i:=4) eA.nd rfl (dh rfl)) (ao (aS (eF (tX B aH.cls S.m bh (pv 4))) (ah (aS (ar aN (eJ (pv 4) rfl) (pv 0) (az _)) (ao (aB (bQ (aa ai (aa (pv 3) af))))) aC) (ao (yd (i:=3) eA.nd rfl (dh rfl) aj yr))) aC))) (ah (aS (ar dX (pv 0) (pv 2) rfl) (ao (aB (bQ (aa ai (aa (ay dz (pv 3) (mB PySem.F.plainAttrs_list PySem.F.slot_list_index PySem.F.type_list_index vG (pv 2) (aa (pv 0) af))) af))))) aC) (ao (aB (bQ (aa ai (aa (pv 0) af)))))))),?_⟩;try dsimp only[j6,Z]
 refine IG ?_;intro _ _ _ _;refine⟨_,rfl,a,_,rfl,bj.of ha,?_⟩;have hlen:((st.map λq=>V.ref q.1).reverse).length=st.length:=by simp
 rw[hlen];let G:Nat->L2.St->Hp->Prop:=(λi r H'=>∃(bn:Nat)(o:Option V),r=[some (.str z),some (.ref a),some (.ref b),some (.int (bn:Nat)),o]/\H'=H/\bn<=i/\xF z names (st.map (·.2.2)) 0=xF z names ((st.drop i).map (·.2.2)) bn);refine jG st.length G ?_ ?_ ?_;·exact⟨0,none,rfl,rfl,bB _,by rw[List.drop_zero]⟩
 ·rintro i r C hi⟨bn,o,rfl,rfl,L,g⟩;refine⟨⟨hi,_,bj.of ha,hlen⟩,?_⟩;rintro x' Y⟨rfl,n⟩;have n:=n _ (bj.of ha);have O:((st.map λq=>V.ref q.1).reverse)[st.length-1-i]?=some (V.ref (st[i]).1):=by rw[List.getElem?_reverse (by rw[bT];omega),bT,show st.length-1-(st.length-1-i)=i by omega,fU,cN hi];rfl
  rw[O]at n;cases n;have hq:=J st[i] (List.getElem_mem hi);have N:(st.drop i).map (·.2.2)=(st[i]).2.2::((st.drop (i+1)).map (·.2.2)):=by rw[AU hi,gQ]
  rw[N]at g;generalize st[i]=X at hq g⊢;obtain⟨p,W,fo⟩:=X;obtain⟨⟨ps,F,x⟩,u⟩:=hq;dsimp only at F x u g⊢;obtain⟨dx,d,v,hd⟩:=id F.obj;have R:ps.length=fo.parts.length:=x.length;refine⟨_,rfl,p,dx,_,rfl,v,rfl,p,W,fo.word,fo.name,_,ps,rfl,F,u,_,rfl,?_⟩;have I:(fo.name.isSome&&decide (gw fo.word=V.int ((ps.length:Nat):Int)))=uy fo:=by unfold uy;rw[R]
  rw[I];have j:xF z names (st.map (·.2.2)) 0=if uy fo=true then(if fo.name=some z then .tup [.str "var", .int (bn:Nat)]else xF z names ((st.drop (i+1)).map (·.2.2)) (bn+1))else xF z names ((st.drop (i+1)).map (·.2.2)) bn:=g;cases k:uy fo with
   |false=>rw[k]at j;exact cB ⟨bn,_,rfl,rfl,by omega,by rw[j,if_neg (by decide)]⟩
   |true=>
    rw[k,if_pos rfl]at j;obtain⟨y,T⟩:∃y,fo.name=some y:=by unfold uy at k;cases e:fo.name with|none=>rw[e]at k;cases k|some y=>exact⟨y,rfl⟩
    refine bo ⟨_,rfl,p,t.Form,dx,_,_,rfl,v,aH.cls,aH.name,rfl,_,rfl,?_⟩;rw[T]at j⊢;refine⟨rfl,_,rfl,?_⟩;by_cases e:y=z;·subst e;rw[if_pos rfl]at j;refine bz (λ_=>?_) (λc=>absurd (decide_eq_true rfl) c);refine⟨_,rfl,(dF rfl),λm l=>?_⟩;rw[j]at q;exact q _ _ (ak l _) ⟨m,_,rfl,ag,_,_,rfl,⟨rfl,by decide+kernel⟩,_,_,rfl,rfl,rfl⟩
    ·rw[if_neg (λh=>e (Option.some.inj h))]at j;refine bz (λc=>absurd (by have :=of_decide_eq_true c;injection this) e) (λ_=>?_);refine⟨_,rfl,_,_,rfl,rfl,?_⟩;exact⟨bn+1,_,rfl,rfl,by omega,j⟩
 ·rintro r C⟨bn,o,rfl,rfl,L,g⟩;rw[List.drop_length]at g;have g:xF z names (st.map (·.2.2)) 0=if z∈names then .tup [.str "var", .int ((bn+names.idxOf z:Nat):Int)]else .tup [.str "name", .str z]:=g;refine⟨rfl,_,rfl,_,rfl,b,_,rfl, .inl hb,rfl,gL _,_,rfl,?_⟩;rw[gF];by_cases hm:z∈names;·rw[if_pos hm]at g;rw[decide_eq_true hm];refine bo ⟨_,rfl,_,rfl, .inl ⟨rfl,_,hb⟩,_,rfl,b,names,z,rfl,rfl,hb,hm,(by omega),_,_,rfl,rfl,(dF rfl),λm l=>?_⟩;rw[g]at q;exact q _ _ (ak l _) ⟨m,_,rfl,ag,_,_,rfl,⟨rfl,by decide+kernel⟩,_,_,rfl,rfl,rfl⟩
  ·rw[if_neg hm]at g;rw[decide_eq_false hm];refine cB ⟨_,rfl,(dF rfl),λm l=>?_⟩;rw[g]at q;exact q _ _ (ak l _) ⟨m,_,rfl,ag,_,_,rfl,⟨rfl,by decide+kernel⟩,_,_,rfl,⟨rfl,U⟩,rfl⟩
noncomputable def G8(z:Str):Nat:=match PySem.intText? z with|some n=>n.toNat|none=>0
noncomputable def ck(z:Str)(names:List Str)(st:List Fo):Option D:=if z∈(["nat","none","zero"]:List Str)then some (.tup [.str z])else if jP z=true then some (iy (G8 z))else if cG (.str z)=true then some (xF z names st 0)else none
def EY(K:PySem.W.Frag)(C N:Addr):Sp:=λvs H Q E=>∃(a b:Addr)(z:Str)(st:List (Addr×Addr×Fo))(names:List Str),vs=[.str z, .ref a, .ref b]/\H a=some (.lst ((st.map λq=>V.ref q.1).reverse))/\st.length<=100000/\(∀q∈st,M4 K C H q.1 q.2.1 q.2.2)/\H b=some (.lst (names.map V.str))/\names.length<=1000/\1<=z.length/\z.length<=1000/\(ck z names (st.map (·.2.2))=none->∀H',aD H H'->E (.ref N) none H')/\∀(d:D),ck z names (st.map (·.2.2))=some d->∀(v:V)(H':Hp),aD H H'->Rep H' d v->Q v H'
theorem M4.mono{C x p:Addr}{H H':Hp}{f:Fo}(h:M4 K C H x p f)(s:aD H H'):M4 K C H' x p f:=by obtain⟨⟨ps,F,r⟩,hb⟩:=h;exact⟨⟨ps,F.mono s,r.mono s⟩,hb⟩
theorem Kh(D:Df K mg "leaf_of" je ["word","forms","names"])(M:Mg mg t)(r:lO K t.aU)(C:da P w K mg cR "is_figure" (1) ["word"] N3)(u:da P w K mg cR "count_of" (1) ["number"] DK)(y:da P w K mg cR "is_name" (1) ["value"] sM)(B:da P w K mg cR "thing_named" (2) ["word","forms","names"] (CV K t.Form)):da P w K mg (gK P w) "leaf_of" (3) ["word","forms","names"] (EY K t.Form t.aU):=by
 have x:=C;refine D.O8 BU (λvs H Q E h=>?_) (λbase f cH A outer s H vs Q E i h=>?_);·obtain⟨a,b,z,st,names,rfl,_⟩:=h;rfl
 obtain⟨a,b,z,st,names,rfl,ha,S,L,hb,N,h1,h2,W,q⟩:=h;refine⟨_,(ah (aS (ar dX (pv 0) (bQ (aa ai (aa ai (aa ai af)))) rfl) (ao (aB (bQ (aa (pv 0) af)))) aC) (ah (aS (eF (bA x i.m rfl bh (aa (pv 0) af))) (ao (aB (bA u i.m rfl bh (aa (cQ lH rfl M.vC lN (aa (pv 0) af)) af)))) aC) (ah (aS (eF (bA y i.m rfl bh (aa (pv 0) af))) (ao (aB (bA B i.m rfl bh (aa (pv 0) (aa (pv 1) (aa (pv 2) af)))))) aC) (ao (ej (G:=(λH'=>E (.ref t.aU) none H')) r M.g_NoText (aa ai af) (λpins σ H s e h' I m q=>fF I m q)))))),?_⟩;try dsimp only[j6,eC]
 refine IG ?_;intro _ _ _ _;refine⟨_,rfl,(dF rfl),λo O=>⟨o,(["nat","none","zero"]:List Str).map V.str,rfl, .inr (gG.of ag),rfl,rfl,_,rfl,?_⟩⟩;have s1:=ak O (.tup [V.str "nat", .str "none", .str "zero"]);show if(Ph (.str z) ((["nat","none","zero"]:List Str).map V.str))=true then _ else _;rw[gF];generalize upd H o (.tup [V.str "nat", .str "none", .str "zero"])=H1 at s1⊢;by_cases c:z∈(["nat","none","zero"]:List Str);·rw[decide_eq_true c];refine bo ⟨_,rfl,(dF rfl),λT R=>?_⟩;exact q (.tup [.str z]) (by unfold ck;rw[if_pos c]) _ _ (s1.trans (ak R _)) ⟨T,_,rfl,ag,_,_,rfl,⟨rfl,h2⟩,rfl⟩
 rw[decide_eq_false c];refine cB ⟨_,rfl,z,rfl,h1,(by omega),λH2 s2=>⟨_,rfl,?_⟩⟩;have p:=s1.trans s2;cases g:jP z with
  |true=>
   obtain⟨n,abe,l,hzn,XZ⟩:=KC h1 g;have e:ck z names (st.map (·.2.2))=some (iy n):=by unfold ck G8;rw[if_neg c,if_pos g,l];rfl
   exact bo ⟨_,rfl,z,_,rfl,l,(by omega),n,rfl,(by omega),λv j k X=>q _ e v j (p.trans k) X⟩
  |false=>
   refine cB ⟨_,rfl, .str z, .str z,rfl,⟨rfl,h2⟩,λj k=>⟨_,rfl,?_⟩⟩;have d:=p.trans k;cases hn:cG (.str z)with
    |false=>exact cB ⟨by decide,W (by unfold ck;rw[if_neg c,if_neg (by rw[g];decide),if_neg (by rw[hn];decide)]) j d⟩
    |true=>
     have e:ck z names (st.map (·.2.2))=some (xF z names (st.map (·.2.2)) 0):=by unfold ck;rw[if_neg c,if_neg (by rw[g];decide),if_pos hn]
     refine bo ⟨_,rfl,_,rfl,_,rfl,a,b,z,st,names,rfl,d _ _ ha,S,λU J=>(L U J).mono d,?_,N,h2,λv F Z Y=>q _ e v F (d.trans Z) Y⟩;exact bj.of (d _ _ hb)
noncomputable def BA:D->Bool| .tup (.str y::_)=>dB y|_=>false
noncomputable def cj(f:Fo)(d:D):Option Fo:=match f.gT[f.parts.length]? with|none=>none|some dd=>if BA d=decide (dd="kind")then some {f with parts:=f.parts++[d]}else none
noncomputable def OV(f:Fo):D:= .tup (.str f.word::f.parts)
noncomputable def ir(names:List Str):Nat->List Str->List Fo->Option (List Fo)|_,[],st=>some st|0,_::_,_=>none|n+1,z::ws,st=>if z="("then match cC (ws.take 2)with|none=>none|some fo=>ir names n (ws.drop (if fo.name=none then 1 else 2)) (fo::st)else if z=")"then match st with|fo::go::r=>if fo.parts.length=fo.gT.length then(match cj go (OV fo)with|some g'=>ir names n ws (g'::r)|none=>none)else none|_=>none else match st with|fo::r=>(match ck z names (fo::r)with|some d=>(match cj fo d with|some f'=>ir names n ws (f'::r)|none=>none)|none=>none)|[]=>none
theorem j8(names:List Str):∀(n m:Nat)(ws:List Str)(st:List Fo),ws.length<=n->ws.length<=m->ir names n ws st=ir names m ws st
 |n,m,[],st,_,_=>by cases n<;>cases m<;>rfl
 |0,_,_::_,_,h,_=>by simp at h
 |_,0,_::_,_,_,h=>by simp at h
 |n+1,m+1,z::ws,st,h1,h2=>by
  have h1:ws.length<=n:=by simpa using h1
  have h2:ws.length<=m:=by simpa using h2
  simp only[ir];split;·cases cC (ws.take 2)with|none=>rfl|some fo=>exact j8 names n m _ _ (by rw[dJ];omega) (by rw[dJ];omega)
  split
  ·match st with
    |[]=>rfl
    |[_]=>rfl
    |fo::go::r=>
     simp only;split;·cases cj go (OV fo)with|none=>rfl|some g'=>exact j8 names n m _ _ h1 h2
     ·rfl
  ·match st with|[]=>rfl|fo::r=>simp only;cases ck z names (fo::r)with|none=>rfl|some d=>simp only;cases cj fo d with|none=>rfl|some f'=>exact j8 names n m _ _ h1 h2
noncomputable def uS(dd:Str):Fo:=⟨"",none,[dd],[]⟩
noncomputable def outD:Option (List Fo)->Option D|some [fo]=>fo.parts.head?|_=>none
noncomputable def cg(names:List Str)(dd:Str)(ws:List Str):Option D:=outD (ir names ws.length ws [uS dd])
theorem dM{f f':Fo}{d:D}(h:cj f d=some f'):f.parts.length<f.gT.length/\f'={f with parts:=f.parts++[d]}/\∃dd,f.gT[f.parts.length]?=some dd/\BA d=decide (dd="kind"):=by
 unfold cj at h;cases e:f.gT[f.parts.length]? with
  |none=>rw[e]at h;cases h
  |some dd=>
   rw[e]at h;simp only at h;split at h;·rename_i c;exact⟨(List.getElem?_eq_some_iff.mp e).1,(Option.some.inj h).symm,dd,rfl,c⟩
   ·cases h
theorem Tt{x:Str}(h:jk x BO=true):∃i:Int,KTD.datumAt x BO=some (.int i):=by
 unfold jk at h;cases e:KTD.datumAt x BO with
  |none=>rw[e]at h;cases h
  |some v=>
   have :v= .int 1\/v= .int 0:=by
    simp only[KTD.datumAt,BO]at e;repeat' split at e
    all_goals first|(cases e;exact .inl rfl)|(cases e;exact .inr rfl)|cases e
   rcases this with z|z<;>rw[z]<;>exact⟨_,rfl⟩
theorem Bj{b:List Str}{fo:Fo}(h:cC b=some fo):fo.parts=[]/\fo.gT.length<=4/\(fo.name.isSome=true->∃i:Int,KTD.datumAt fo.word BO=some (.int i))/\(if fo.name=none then 1 else 2)<=b.length/\fo.word=lG b:=by
 unfold cC at h;by_cases c:bq (lG b)=[];·rw[if_pos c]at h;cases h
 rw[if_neg c]at h;by_cases d:jk (lG b) BO=false;·rw[if_pos d]at h;cases h;refine⟨rfl,Ar _,λz=>(nomatch z),?_,rfl⟩;rw[if_pos rfl];cases b with|nil=>exact absurd (by decide+kernel) c|cons a l=>simp
 ·rw[if_neg d]at h;match b,h with
   |[y,n],h=>
    have h:(if cG (.str n)=true then some (⟨lG [y,n],some n,bq (lG [y,n]),[]⟩:Fo)else none)=some fo:=h;split at h;·cases h;exact⟨rfl,Ar _,λ_=>Tt (by cases e:jk (lG [y,n]) BO with|false=>exact absurd e d|true=>rfl),by rw[if_neg (by simp)];simp,rfl⟩
    ·cases h
theorem IF{z:Str}{names:List Str}{st:List Fo}{d:D}(h:ck z names st=some d):∃(y:Str)(ds:List D),d= .tup (.str y::ds):=by
 have nm:∀(st:List Fo)(b:Nat),∃(y:Str)(ds:List D),xF z names st b= .tup (.str y::ds):=λst=>by
  induction st with
   |nil=>intro b;simp only[xF];split<;>exact⟨_,_,rfl⟩
   |cons f r a=>
    intro b;simp only[xF];split
    ·split;·exact⟨_,_,rfl⟩
     ·exact a _
    ·exact a _
 unfold ck at h;split at h;·cases h;exact⟨_,_,rfl⟩
 split at h;·cases h;cases G8 z with|zero=>exact⟨_,_,rfl⟩|succ n=>exact⟨_,_,rfl⟩
 split at h;·cases h;exact nm st 0
 ·cases h
theorem M4.gS{C x p q:Addr}{H H':Hp}{f:Fo}{xs:List V}(h:M4 K C H x p f)(hq:H q=some (.lst xs))(ne:p≠q)(s:bM q H H'):M4 K C H' x p f:=by
 obtain⟨⟨ps,F,r⟩,hb⟩:=h;obtain⟨dx,d,a,hd⟩:=F.obj;refine⟨⟨ps,⟨⟨dx,d,s _ _ (λe=>by rw[e,hq]at a;cases a) a,?_⟩,s _ _ ne F.parts⟩,r.gS s λvs z=>by rw[hq]at z;cases z⟩,hb⟩;rcases hd with h|h;·exact .inl (h.imp (λh=>s _ _ (λe=>by rw[e,hq]at h;cases h) h) λ⟨o,h⟩=>⟨o,s _ _ (λe=>by rw[e,hq]at h;cases h) h⟩)
 ·exact .inr h
noncomputable abbrev Ent:=Addr×Addr×Fo
structure xY(K:PySem.W.Frag)(C:Addr)(H0 H:Hp)(pf pw:Addr)(st:List Ent):Prop where
 CZ:∀q∈st,M4 K C H q.1 q.2.1 q.2.2
 nd:(st.map (·.2.1)).Nodup
 fr:∀q∈st,H0 q.2.1=none
 MJ:∀q∈st,q.2.1≠pf
 NW:∀q∈st,q.2.1≠pw
 le:∀q∈st,q.2.2.parts.length<=q.2.2.gT.length/\q.2.2.gT.length<=4/\q.2.2.word.length<=1000
section
variable{C pf pw:Addr}{H0 H H':Hp}{st:List Ent}
theorem xY.mono(S:xY K C H0 H pf pw st)(s:aD H H'):xY K C H0 H' pf pw st:=⟨λq h=>(S.CZ q h).mono s,S.nd,S.fr,S.MJ,S.NW,S.le⟩
theorem xY.NZ{xs:List V}(S:xY K C H0 H pf pw st)(hq:H pf=some (.lst xs))(s:bM pf H H'):xY K C H0 H' pf pw st:=⟨λq h=>(S.CZ q h).gS hq (S.MJ q h) s,S.nd,S.fr,S.MJ,S.NW,S.le⟩
theorem xY.tail{q:Ent}(S:xY K C H0 H pf pw (q::st)):xY K C H0 H pf pw st:=⟨λq h=>S.CZ q (cU _ h),(List.nodup_cons.mp S.nd).2,λq h=>S.fr q (cU _ h),λq h=>S.MJ q (cU _ h),λq h=>S.NW q (cU _ h),λq h=>S.le q (cU _ h)⟩
theorem xY.take{x p a:Addr}{fo:Fo}{d:D}{ps:List V}(S:xY K C H0 H pf pw ((x,p,fo)::st))(F:Fm K C H x (.str fo.word) (T5 fo.name) (fo.gT.map V.str) p ps)(i:bS H fo.parts ps)(rd:Rep H d (.ref a))(lt:fo.parts.length<fo.gT.length)(f:H' p=some (.lst (ps++[.ref a])))(s:bM p H H'):xY K C H0 H' pf pw ((x,p,{fo with parts:=fo.parts++[d]})::st):=by
 have nt:∀vs,H p≠some (.tup vs):=λvs z=>by rw[F.parts]at z;cases z
 obtain⟨dx,c,b,hd⟩:=id F.obj;have g:x≠p:=λe=>by rw[e,F.parts]at b;cases b
 refine⟨λq h=>?_,S.nd,λq h=>?_,λq h=>?_,λq h=>?_,λq h=>?_⟩
 ·rcases List.mem_cons.mp h with rfl|h
  ·refine⟨⟨ps++[.ref a],⟨⟨dx,c,s _ _ g b,?_⟩,f⟩,(i.gS s nt).snoc (rd.gS s nt)⟩,(S.CZ (x,p,fo) b5).2⟩;rcases hd with h|h;·exact .inl (h.imp (λh=>s _ _ (λe=>by rw[e,F.parts]at h;cases h) h) λ⟨o,h⟩=>⟨o,s _ _ (λe=>by rw[e,F.parts]at h;cases h) h⟩)
   ·exact .inr h
  ·have n:=(List.nodup_cons.mp S.nd).1;exact(S.CZ q (cU _ h)).gS F.parts (λe=>n (List.mem_map.mpr ⟨q,h,e⟩)) s
 ·rcases List.mem_cons.mp h with rfl|h;·exact S.fr (x,p,fo) b5
  ·exact S.fr q (cU _ h)
 ·rcases List.mem_cons.mp h with rfl|h;·exact S.MJ (x,p,fo) b5
  ·exact S.MJ q (cU _ h)
 ·rcases List.mem_cons.mp h with rfl|h;·exact S.NW (x,p,fo) b5
  ·exact S.NW q (cU _ h)
 ·rcases List.mem_cons.mp h with rfl|h;·have :=S.le (x,p,fo) b5;refine⟨?_,this.2⟩;show(fo.parts++[d]).length<=fo.gT.length;rw[cx,List.length_singleton];exact lt
  ·exact S.le q (cU _ h)
theorem ES{x p N:Addr}{fo:Fo}{d:D}{v:V}{y:Str}{ds:List D}{Q:VK}{E:XK}(S:xY K C H0 H pf pw ((x,p,fo)::st))(rd:Rep H d v)(hd:d= .tup (.str y::ds))(f:cj fo d=none->E (.ref N) none H)(q:∀f':Fo,cj fo d=some f'->∀H',xY K C H0 H' pf pw ((x,p,f')::st)->bM p H H'->Q .bU H'):tw K C N [.ref x,v] H Q E:=by
 obtain⟨⟨ps,F,b⟩,_⟩:=S.CZ (x,p,fo) b5;dsimp only at F b;have j:=S.le (x,p,fo) b5;dsimp only at j;subst hd;obtain⟨a,n,rfl,ha,o,us,rfl,⟨rfl,l⟩,m⟩:=id rd;have g:=b.length;have k:(fo.gT.map V.str).length=fo.gT.length:=bT _;have get:∀dd:Str,(fo.gT.map V.str)[ps.length]?=some (.str dd)->fo.gT[fo.parts.length]?=some dd:=λdd h=>by rw[fU,g]at h;cases e:fo.gT[fo.parts.length]? with|none=>rw[e]at h;cases h|some y=>rw[e]at h;have :=Option.some.inj h;injection this with this;rw[this]
 refine⟨x,p,a,_,_,fo.gT.map V.str,ps,us,y,rfl,F,ha,by omega,λc=>f ?_,λdd h c=>f ?_,λc=>?_⟩;·unfold cj;rw[List.getElem?_eq_none (by omega)]
 ·unfold cj;rw[get dd h];exact if_neg c
 ·have lt:fo.parts.length<fo.gT.length:=by omega
  refine⟨fo.gT[fo.parts.length],by rw[g,fU,cN lt];rfl,λc H' h' s=>?_⟩;have i:cj fo (.tup (.str y::ds))=some {fo with parts:=fo.parts++[.tup (.str y::ds)]}:=by unfold cj;rw[cN lt];exact if_pos c
  exact q _ i H' (S.take F b rd lt h' s) s
theorem xY.push{x p:Addr}{fo:Fo}{xs ys:List V}(S:xY K C H0 H pf pw st)(s:aD H H')(g:aD H0 H)(b:H pf=some (.lst xs))(c:H pw=some (.lst ys))(a:H p=none)(F:Fm K C H' x (.str fo.word) (T5 fo.name) (fo.gT.map V.str) p [])(e:fo.parts=[])(UG:fo.gT.length<=4)(hw:fo.word.length<=1000)(hb:fo.name.isSome=true->∃i:Int,KTD.datumAt fo.word BO=some (.int i)):xY K C H0 H' pf pw ((x,p,fo)::st):=by
 have f:=S.mono s;refine⟨λq h=>?_,List.nodup_cons.mpr ⟨λh=>?_,S.nd⟩,λq h=>?_,λq h=>?_,λq h=>?_,λq h=>?_⟩
 ·rcases List.mem_cons.mp h with rfl|h;·exact⟨⟨[],F,by rw[e];rfl⟩,hb⟩
  ·exact f.CZ q h
 ·obtain⟨q,h1,h2⟩:=List.mem_map.mp h;obtain⟨⟨ps,d,_⟩,_⟩:=S.CZ q h1;have :=d.parts;rw[h2,a]at this;cases this
 ·rcases List.mem_cons.mp h with rfl|h;·exact g.free a
  ·exact S.fr q h
 ·rcases List.mem_cons.mp h with rfl|h;·exactλe=>by rw[show pf=p from e.symm,a]at b;cases b
  ·exact S.MJ q h
 ·rcases List.mem_cons.mp h with rfl|h;·exactλe=>by rw[show pw=p from e.symm,a]at c;cases c
  ·exact S.NW q h
 ·rcases List.mem_cons.mp h with rfl|h;·exact⟨by rw[e];exact fV _,UG,hw⟩
  ·exact S.le q h
end
noncomputable def jA(x:Addr)(dd:Str):List Ent->Prop|[]=>False|[q]=>q.1=x/\q.2.2.gT=[dd]|_::q::r=>jA x dd (q::r)
theorem jA.head{x:Addr}{dd:Str}{q b:Ent}{r:List Ent}(h:jA x dd (q::r))(c:b.1=q.1)(d:b.2.2.gT=q.2.2.gT):jA x dd (b::r):=by cases r with|nil=>exact⟨c.trans h.1,d.trans h.2⟩|cons a r=>exact h
theorem jA.push{x:Addr}{dd:Str}{q:Ent}{r:List Ent}(h:jA x dd r):jA x dd (q::r):=by cases r with|nil=>exact h.elim|cons a r=>exact h
theorem Z0(xs:List V)(k:Nat)(h:k<=xs.length):eG xs (some (k:Int)) (some ((k:Int)+2))=(xs.drop k).take 2:=by
 unfold eG;rw[show((k:Nat):Int)+2=((k+2:Nat):Int)by omega,HT.gu,HT.gu,Nat.min_eq_left h];by_cases h2:k+2<=xs.length;·rw[Nat.min_eq_left h2,show k+2-k=2 by omega]
 ·rw[Nat.min_eq_right (by omega),nM (by rw[dJ];omega),nM (by rw[dJ];omega)]
theorem Dd(v:V)(l:List V):zj ((v::l).reverse) (-1)=some v:=by rw[List.reverse_cons];exact IB _ _
noncomputable abbrev Xe(d:D):Bool:=kq d
def qA(K:PySem.W.Frag)(N G:Addr):Sp:=λvs H Q E=>∃(T dd:Str)(b:Addr)(names:List Str),vs=[.str T, .ref b, .str dd]/\T.length<=99999/\H b=some (.lst (names.map V.str))/\names.length<=1000/\(bL T.cps.toList).length<=50000/\(∀z∈bL T.cps.toList,1<=z.length/\z.length<=1000)/\(cg names dd ((bL T.cps.toList).map tx)=none->∀H',aD H H'->E (.ref N) none H')/\∀d:D,cg names dd ((bL T.cps.toList).map tx)=some d->Rb d 60/\(∀(v:V)(H':Hp),aD H H'->Rep H' d v->Xe d=false->Q v H')/\∀H',aD H H'->Xe d=true->E (.ref G) none H'
theorem bG:aJ ["text","names","due","words","whole","forms","place","word","form","closed"] ["text","names","due"] (aq fH):=⟨rfl,rfl,rfl,by decide+kernel,rfl,by decide+kernel,by decide+kernel⟩
theorem JT(D:Df K mg "read_thing" fH ["text","names","due"])(M:Mg mg t)(aH:nq K t.Form)(cY:lO K t.aU)(Cb:wI P w K mg cR "words_of" 2 ["text"] Ea)(gs:Nc P w K mg "Form" t.Form 1 ["self","word","name","due"] (yq t.Form))(dr:jq P w K mg cR t.Form "is_full" (1) ["self"] (zc K t.Form))(md:jq P w K mg (gK P w) t.Form "take" (2) ["self","thing"] (tw K t.Form t.aU))(vx:jq P w K mg (gK P w) t.Form "closed" (2) ["self"] (zW K t.Form t.aU))(Gp:da P w K mg (gK P w) "form_of" (3) ["head"] (Aj K t.Form t.aU))(Gx:da P w K mg (gK P w) "leaf_of" (3) ["word","forms","names"] (EY K t.Form t.aU))(Gy:da P w K mg (gK P w) "bounded" (64) ["thing"] (vD t.gi 60)):wI P w K mg (gK P w) "read_thing" 66 ["text","names","due"] (qA K t.aU t.gi):=by
 refine D.UP bG (λvs H Q E h=>?_) (λbase f cH A outer s H vs Q E Z h=>?_);·obtain⟨T,dd,b,names,rfl,_⟩:=h;rfl
 obtain⟨T,dd,b,names,rfl,hT,hb,LB,U6,WQ,qe,q⟩:=h;refine⟨_,(eK (DR (i:=3) bG.nd rfl (dh rfl) (Sr Cb Z.m rfl bh (aa (pv 0) af))) (eK (B_ (aE (i:=4) bG.nd rfl (dh rfl) (BE gs Z.m rfl bh (aa ai (aa yt (aa (bQ (aa (pv 2) af)) af)))))) (eK (B_ (aE (i:=5) bG.nd rfl (dh rfl) (aT (aa (pv 4) af)))) (eK (B_ (aE (i:=6) bG.nd rfl (dh rfl) aj)) (eK (B_ (Hl VY (ar Ei (pv 6) (aM aL rfl M.dj cu (aa (pv 3) af)) (az _)) (ah (aE (i:=7) bG.nd rfl (dh rfl) (aZ aP (pv 3) (pv 6) (λ_ _=>rfl))) (ah (yd (i:=6) bG.nd rfl (dh rfl) aj yr) (ao (aS (ar aN (pv 7) ai (az _)) (ah (aE (i:=8) bG.nd rfl (dh rfl) (bA Gp Z.m rfl fe (aa (bI cA (pv 3) (bp (pv 6)) (bp (ay dz (pv 6) aj))) af))) (ah (gY (mB PySem.F.plainAttrs_list PySem.F.slot_list_append PySem.F.type_list_append fL (pv 5) (aa (pv 8) af))) (ao (yd (i:=6) bG.nd rfl (dh rfl) (tW (ar Q1 (eJ (pv 8) rfl) yt (az _)) aj aj) yr)))) (ao (aS (ar aN (pv 7) ai (az _)) (ah (aS (ar aN (aM aL rfl M.dj cu (aa (pv 5) af)) aj (az _)) (ao (ej (G:=(λH'=>E (.ref t.aU) none H')) cY M.g_NoText (aa ai af) (λpins σ H s e h' I m q=>fF I m q))) aC) (ah (aE (i:=9) bG.nd rfl (dh rfl) (tX vx aH.cls Z.m fe (Sf PySem.F.plainAttrs_list PySem.F.slot_list_pop PySem.F.type_list_pop Qy (pv 5)))) (ao (gY (OZ md aH.cls Z.m fe (aZ aP (pv 5) (Ib Bo aj) (λ_ _=>rfl)) (aa (pv 9) af)))))) (ao (gY (OZ md aH.cls Z.m fe (aZ aP (pv 5) (Ib Bo aj) (λ_ _=>rfl)) (aa (bA Gx Z.m rfl fe (aa (pv 7) (aa (pv 5) (aa (pv 1) af)))) af)))))))))))) (eK (B_ (aS (L2.PW.pt (dN (ar mw (aM aL rfl M.dj cu (aa (pv 5) af)) aj (az _)) (dH (lP (eF (tX dr aH.cls Z.m bh (pv 4))))))) (ao (ej (G:=(λH'=>E (.ref t.aU) none H')) cY M.g_NoText (aa ai af) (λpins σ H s e h' I m q=>fF I m q))) aC)) (zy (B_ (aB (bA Gy Z.m rfl fe (aa (aZ aP (eJ (pv 4) rfl) aj (λ_ _=>rfl)) af))))))))))),?_⟩;try dsimp only[j6,eC]
 refine WC ?_;intro _ _ _ _ _ _ _;refine⟨_,rfl,T,rfl,(by omega),λpw H1 e1 s1 OJ=>?_⟩;have ews:(bL T.cps.toList).map (λw=>V.str (tx w))=((bL T.cps.toList).map tx).map V.str:=by rw[List.map_map];rfl
 rw[ews]at OJ;have Y0:∀z∈(bL T.cps.toList).map tx,1<=z.length/\z.length<=1000:=λz h=>by obtain⟨l,h1,rfl⟩:=List.mem_map.mp h;have :=WQ l h1;rw[Cf];exact this
 have hw4:((bL T.cps.toList).map tx).length<=50000:=by rw[bT];exact U6
 clear ews U6 WQ;generalize(bL T.cps.toList).map tx=ws at OJ Y0 hw4 qe q;refine⟨_,rfl,(dF rfl),λpd hpd x dx hx Hi Uh=>?_⟩;have t2:=ak hpd (.tup [V.str dd]);have Tx:(upd H1 pd (.tup [V.str dd])) pd=some (.tup [V.str dd]):=ag;generalize upd H1 pd (.tup [V.str dd])=H2 at t2 Tx hx Hi⊢;refine⟨x,dx, .str "", .bU, .ref pd,rfl,ag,λp H3 hp Ny mT Y6 keep=>⟨rfl,?_⟩⟩;have YA:aD H2 H3:=λb o h=>by have n1:b≠x:=aI h hx;have n2:b≠dx:=aI h Hi;exact keep b o n1 (by rw[bc n1,bc n2];exact h)
 have C7:H2 p=none:=by
  rw[bc Ny]at hp;by_cases e:p=dx;·rw[e];exact Hi
  ·rw[bc e]at hp;exact hp
 clear hp keep;have T3:=s1.trans t2;have s03:=T3.trans YA;have Nv:=YA _ _ (t2 _ _ OJ);clear hx Hi Uh;refine⟨_,rfl,(dF rfl),λpf G1=>?_⟩;have t4:=ak G1 (.lst [V.ref x]);have Q5:(upd H3 pf (.lst [V.ref x])) pf=some (.lst [V.ref x]):=ag;have ZZ:=s03.trans t4;have Qj:=t4 _ _ Nv;have Xx:H pf=none:=s03.free G1;have Xb:pw≠pf:=λe=>by rw[e,G1]at Nv;cases Nv
 have S4:xY K t.Form H (upd H3 pf (.lst [V.ref x])) pf pw [(x,p,uS dd)]:=by
  refine⟨λq h=>?_,by simp,λq h=>?_,λq h=>?_,λq h=>?_,λq h=>?_⟩;all_goals(rw[List.mem_singleton]at h;subst h)
  ·exact⟨⟨[],⟨⟨dx,pd,t4 _ _ Y6,gG.of (t4 _ _ (YA _ _ Tx))⟩,t4 _ _ mT⟩,rfl⟩,λz=>(nomatch z)⟩
  ·exact T3.free C7
  ·exactλe=>by rw[<-show p=pf from e,mT]at G1;cases G1
  ·exactλe=>by have :=t2 _ _ OJ;rw[<-show p=pw from e,C7]at this;cases this
  ·exact⟨fV _,by show 1<=4;decide,by show(Str.ofString "").length<=1000;decide+kernel⟩
 generalize upd H3 pf (.lst [V.ref x])=H4 at Q5 ZZ Qj S4⊢;clear t4 G1 Y6 mT Tx Nv s03 T3 OJ C7 t2 hpd YA s1;let Iw:Nat->L2.St->Hp->Prop:=λm aX H'=>∃(k:Nat)(st:List Ent)(wv fv cv:Option V),aX=[some (.str T),some (.ref b),some (.str dd),some (.ref pw),some (.ref x),some (.ref pf),some (.int (k:Nat)),wv,fv,cv]/\m=ws.length-k/\k<=ws.length/\xY K t.Form H H' pf pw st/\H' pf=some (.lst ((st.map λq=>V.ref q.1).reverse))/\H' pw=some (.lst (ws.map V.str))/\aD H H'/\jA x dd st/\st.length<=k+1/\ir names ws.length (ws.drop k) (st.map (·.2.2))=ir names ws.length ws [uS dd];refine⟨Iw,⟨_,0,[(x,p,uS dd)],none,none,none,rfl,rfl,fV _,S4,Q5,Qj,ZZ,⟨rfl,rfl⟩,by simp,rfl⟩,?_⟩;clear S4 Q5 Qj ZZ;rintro m aX Y⟨k,st,wv,fv,cv,rfl,rfl,hk,S,B,Bl,L,U,Gw,a⟩;refine⟨_,rfl,_,rfl,pw,_,rfl, .inl (bj.of Bl),_,_,rfl,rfl,_,rfl,?_⟩;have Je:(ws.map V.str).length=ws.length:=bT _;by_cases zi:k<ws.length
 ·refine bz (λ_=>?_) (λc=>absurd (decide_eq_true (by rw[Je];omega)) c);refine⟨λaX H'=>∃m',m'<ws.length-k/\Iw m' aX H',λaX H' h=>h,?_⟩;obtain⟨z,hz⟩:∃z,ws[k]?=some z:=⟨ws[k],cN zi⟩;have hzm:z∈ws:=List.mem_of_getElem? hz;have Y2:ws.drop k=z::ws.drop (k+1):=by rw[AU zi];rw[cN zi]at hz;rw[Option.some.inj hz]
  obtain⟨n,hn⟩:∃n,ws.length=n+1:=⟨ws.length-1,by omega⟩;have fuel:∀(iz:List Str)(f9:List Fo),iz.length<=n->ir names ws.length iz f9=ir names n iz f9:=λiz f9 h=>j8 names _ _ _ _ (by omega) h;rw[Y2]at a;have a:ir names (n+1) (z::ws.drop (k+1)) (st.map (·.2.2))=ir names ws.length ws [uS dd]:=by rw[<-hn];exact a
  have LJ:(ws.drop (k+1)).length<=n:=by rw[dJ];omega
  generalize O:ir names ws.length ws [uS dd]=R at a;have Ul:R=none->∀H',aD H H'->E (.ref t.aU) none H':=λe=>qe (by unfold cg;rw[O,e];rfl);refine⟨_,rfl,_,rfl,pw,_,_,_,rfl,rfl,bj.of Bl,aG (j:=k) (by rw[fU,hz];rfl),?_⟩;refine⟨_,rfl,_,_,rfl,rfl,?_⟩;have ez:∀y:Str,decide (V.str z=V.str y)=decide (z=y):=λy=>by
   by_cases h:z=y;·rw[h];simp
   ·rw[decide_eq_false h];exact decide_eq_false λq=>h (by injection q)
  refine⟨_,rfl,rfl,_,rfl,?_⟩;rw[ez];simp only[ir]at a;by_cases c1:z="("
  ·rw[if_pos c1]at a;rw[decide_eq_true c1];refine bo ?_;refine⟨_,rfl,_,rfl,((k+1:Nat):Int),rfl,_,rfl,_,_,rfl,rfl,((k+1:Nat):Int)+2,rfl,pw,_,rfl,bj.of Bl,λph hph=>?_⟩;rw[Z0 _ _ (by rw[Je];omega),<-List.map_drop,<-List.map_take];have t6:=ak hph (.lst (((ws.drop (k+1)).take 2).map V.str));have Ws:(upd Y ph (.lst (((ws.drop (k+1)).take 2).map V.str))) ph=some (.lst (((ws.drop (k+1)).take 2).map V.str)):=ag;generalize upd Y ph (.lst (((ws.drop (k+1)).take 2).map V.str))=J at t6 Ws⊢;have C:=L.trans t6;refine⟨ph,_,rfl,Ws,by rw[dU];omega,λy hy=>(Y0 y (ud (uB hy))).2,λe W X=>Ul ?_ W (C.trans X),λfo e xn pn W X hx7 hp7 aa7 F7=>?_⟩;·rw[e]at a;exact a.symm
   rw[e]at a;have a:ir names n ((ws.drop (k+1)).drop (if fo.name=none then 1 else 2)) (fo::st.map (·.2.2))=R:=a;obtain⟨e1,e2,e3,e4,e5⟩:=Bj e;have YZ:=t6.trans X;have hwo:fo.word.length<=1000:=by rw[e5];unfold lG;cases hh:(ws.drop (k+1)).take 2 with|nil=>decide+kernel|cons y l=>exact(Y0 y (ud (uB (hh▸b5)))).2
   have S7:=S.push (fo:=fo) (x:=xn) (p:=pn) YZ L B Bl (t6.free hp7) F7 e1 e2 hwo e3;have SK:=YZ _ _ B;refine⟨_,rfl, .inl ⟨rfl,_,bj.of SK⟩,_,rfl,pf,_,_,rfl,rfl,SK,(by rw[sizeLine_eq,List.length_reverse,bT];omega),?_⟩;have N:bM pf W (upd W pf (.lst ((st.map λq=>V.ref q.1).reverse++[V.ref xn]))):=bM.upd _;have Vl:(upd W pf (.lst ((st.map λq=>V.ref q.1).reverse++[V.ref xn]))) pf=some (.lst ((st.map λq=>V.ref q.1).reverse++[V.ref xn])):=ag;generalize upd W pf (.lst ((st.map λq=>V.ref q.1).reverse++[V.ref xn]))=H8 at N Vl⊢;have S8:=S7.NZ SK N;obtain⟨⟨ps8,F8,_⟩,_⟩:=S8.CZ _ b5;dsimp only at F8;obtain⟨dx8,d8,hx8,hd8⟩:=id F8.obj;have ZF:H8 pw=some (.lst (ws.map V.str)):=N _ _ Xb (YZ _ _ Bl);have s8:aD H H8:=λb' o h=>N _ _ (aI h Xx) (YZ _ _ (L _ _ h));have XZ:((ws.drop (k+1)).take 2).length<=ws.length-(k+1):=by rw[dU,dJ];omega
   have fin:∀c:Nat,c=(if fo.name=none then 1 else 2)->Iw (ws.length-(k+1+c)) [some (.str T),some (.ref b),some (.str dd),some (.ref pw),some (.ref x),some (.ref pf),some (.int ((k+1+c:Nat):Int)),some (.str z),some (.ref xn),cv] H8:=λc hc=>by
    rw[<-hc]at e4 a;refine⟨k+1+c,(xn,pn,fo)::st,_,_,_,rfl,rfl,by omega,S8,?_,ZF,s8,U.push,by rw[bD];omega,?_⟩;·rw[Vl,gQ,List.reverse_cons]
    ·rw[O,fuel _ _ (by rw[dJ];omega),<-a,List.drop_drop];rfl
   refine⟨_,rfl,_,rfl,xn,t.Form,dx8,_,_,rfl,hx8,aH.cls,aH.name,rfl,rfl,_,rfl,?_⟩;cases A6:fo.name with|none=>exact bo ⟨_,_,rfl,rfl,_,by omega,fin 1 (by rw[A6,if_pos rfl])⟩|some y=>exact cB ⟨_,_,rfl,rfl,_,by omega,fin 2 (by rw[A6,if_neg (by simp)])⟩
  rw[if_neg c1]at a;rw[decide_eq_false c1];refine cB ⟨_,rfl,rfl,_,rfl,?_⟩;rw[ez];by_cases c2:z=")"
  ·rw[if_pos c2]at a;rw[decide_eq_true c2];refine bo ?_;refine⟨_,rfl,pf,_,rfl, .inl (bj.of B),rfl,_,rfl,?_⟩;match st,U,B,a,S,Gw with
    |[q0],U,B,a,S,Gw=>refine bz (λ_=>?_) (λc=>absurd (decide_eq_true rfl) c);exact⟨by decide,Ul a.symm Y L⟩
    |(xa,pa,fa)::(u,pg,g)::r,U,B,a,S,Gw=>
     refine bz (λc=>absurd (of_decide_eq_true c) (by intro z;injection z with z;simp at z;omega)) (λ_=>?_);have a:(if fa.parts.length=fa.gT.length then(match cj g (OV fa)with|some g'=>ir names n (ws.drop (k+1)) (g'::r.map (·.2.2))|none=>none)else none)=R:=a;have er:((xa,pa,fa)::(u,pg,g)::r).map (λq:Ent=>V.ref q.1)=V.ref xa::((u,pg,g)::r).map (λq:Ent=>V.ref q.1):=rfl;rw[er,List.reverse_cons]at B;refine⟨_,rfl, .inl ⟨rfl,_,bj.of B⟩,pf,_,_,rfl,rfl,B,(by rw[cx,List.length_singleton,Nat.add_sub_cancel,List.getElem?_append_right (bB _),Nat.sub_self];rfl),?_⟩;rw[List.dropLast_concat];have x6:bM pf Y (upd Y pf (.lst ((((u,pg,g)::r).map (λq:Ent=>V.ref q.1)).reverse))):=bM.upd _;have RZ:(upd Y pf (.lst ((((u,pg,g)::r).map (λq:Ent=>V.ref q.1)).reverse))) pf=some (.lst ((((u,pg,g)::r).map (λq:Ent=>V.ref q.1)).reverse)):=ag;generalize upd Y pf (.lst ((((u,pg,g)::r).map (λq:Ent=>V.ref q.1)).reverse))=J at x6 RZ⊢;have S6:=S.NZ B x6;have C:aD H J:=λb' o h=>x6 _ _ (aI h Xx) (L _ _ h);have aaJ:J pw=some (.lst (ws.map V.str)):=x6 _ _ Xb Bl;obtain⟨⟨ps6,F6,Zk⟩,_⟩:=S6.CZ (xa,pa,fa) b5;have Wr:=S6.le (xa,pa,fa) b5;dsimp only at F6 Zk Wr;have abg:=Zk.length;have Kq:(fa.gT.map V.str).length=fa.gT.length:=bT _;obtain⟨dx6,d6,hx6,hd6⟩:=id F6.obj;refine⟨xa,dx6,_,rfl,hx6,rfl,xa,pa,_,_,_,ps6,rfl,F6,(by omega),λc=>Ul ?_ J C,λc pc W hpc X=>?_⟩;·rw[if_neg (by omega)]at a;exact a.symm
     rw[if_pos (by omega)]at a;have S7:=S6.tail.mono X;have rc:Rep W (OV fa) (.ref pc):=⟨pc,_,rfl,hpc,_,_,rfl,⟨rfl,Wr.2.2⟩,Zk.mono X⟩;obtain⟨⟨ps7,F7,_⟩,_⟩:=S7.CZ (u,pg,g) b5;dsimp only at F7;obtain⟨dx7,d7,hx7,hd7⟩:=id F7.obj;have s07:=C.trans X;refine⟨_,rfl,_,rfl,pf,_,_,_,rfl,rfl,bj.of (X _ _ RZ),Dd _ _,u,dx7,_,rfl,hx7,rfl,_,rfl,?_⟩;show tw K t.Form t.aU [.ref u, .ref pc] W (λ_ H1=>∃m',m'<ws.length-k/\Iw m' [some (.str T),some (.ref b),some (.str dd),some (.ref pw),some (.ref x),some (.ref pf),some (.int ((k+1:Nat):Int)),some (.str z),fv,some (.ref pc)] H1) E;refine ES S7 rc rfl (λe=>Ul ?_ W s07) λg' e H8 S8 N=>?_;·rw[e]at a;exact a.symm
     rw[e]at a;have a:ir names n (ws.drop (k+1)) (g'::r.map (·.2.2))=R:=a;obtain⟨_,eg,_⟩:=dM e;have Ri:=S7.MJ (u,pg,g) b5;have Q4:=S7.NW (u,pg,g) b5;have Rk:=S7.fr (u,pg,g) b5;refine⟨_,by omega,k+1,(u,pg,g')::r,_,_,_,rfl,rfl,by omega,S8,N _ _ (Ne.symm Ri) (X _ _ RZ),N _ _ (Ne.symm Q4) (X _ _ aaJ),λb' o h=>N _ _ (aI h Rk) (s07 _ _ h),jA.head (q:=(u,pg,g)) U rfl (by rw[eg]),by simp only[bD]at Gw⊢;omega,?_⟩;rw[O,fuel _ _ LJ,<-a];rfl
  rw[if_neg c2]at a;rw[decide_eq_false c2];refine cB ?_;match st,U,B,a,S,Gw with
   |(u,pg,g)::r,U,B,a,S,Gw=>
    have a:(match ck z names (g::r.map (·.2.2))with|some d=>(match cj g d with|some f'=>ir names n (ws.drop (k+1)) (f'::r.map (·.2.2))|none=>none)|none=>none)=R:=a;obtain⟨⟨ps5,F5,_⟩,_⟩:=S.CZ (u,pg,g) b5;dsimp only at F5;obtain⟨Ze,d5,Y7,hd5⟩:=id F5.obj;have hwz:=Y0 z hzm;refine⟨_,rfl,_,rfl,pf,_,_,_,rfl,rfl,bj.of B,Dd _ _,u,Ze,_,rfl,Y7,rfl,_,rfl,_,rfl,_,rfl,pf,b,z,(u,pg,g)::r,names,rfl,B,(by omega),S.CZ,L _ _ hb,LB,hwz.1,hwz.2,λe J C=>Ul ?_ J (L.trans C),λd e v J C r6=>?_⟩;·have e:ck z names (g::r.map (·.2.2))=none:=e;rw[e]at a;exact a.symm
    have e:ck z names (g::r.map (·.2.2))=some d:=e;rw[e]at a;have a:(match cj g d with|some f'=>ir names n (ws.drop (k+1)) (f'::r.map (·.2.2))|none=>none)=R:=a;obtain⟨y,ds,hyd⟩:=IF e;have S6:=S.mono C;have s06:=L.trans C;show tw K t.Form t.aU [.ref u,v] J (λ_ H1=>∃m',m'<ws.length-k/\Iw m' [some (.str T),some (.ref b),some (.str dd),some (.ref pw),some (.ref x),some (.ref pf),some (.int ((k+1:Nat):Int)),some (.str z),fv,cv] H1) E;refine ES S6 r6 hyd (λe=>Ul ?_ J s06) λg' e H8 S8 N=>?_;·rw[e]at a;exact a.symm
    rw[e]at a;have a:ir names n (ws.drop (k+1)) (g'::r.map (·.2.2))=R:=a;obtain⟨_,eg,_⟩:=dM e;have Ri:=S6.MJ (u,pg,g) b5;have Q4:=S6.NW (u,pg,g) b5;have Rk:=S6.fr (u,pg,g) b5;refine⟨_,by omega,k+1,(u,pg,g')::r,_,_,_,rfl,rfl,by omega,S8,N _ _ (Ne.symm Ri) (C _ _ B),N _ _ (Ne.symm Q4) (C _ _ Bl),λb' o h=>N _ _ (aI h Rk) (s06 _ _ h),jA.head (q:=(u,pg,g)) U rfl (by rw[eg]),by simp only[bD]at Gw⊢;omega,?_⟩;rw[O,fuel _ _ LJ,<-a];rfl
 ·refine bz (λc=>absurd (of_decide_eq_true c) (by rw[Je];omega)) (λ_=>?_);have hke:k=ws.length:=by omega
  have O:ir names ws.length ws [uS dd]=some (st.map (·.2.2)):=by rw[<-a,hke,List.drop_length];cases ws.length<;>rfl
  refine⟨_,rfl,pf,_,rfl, .inl (bj.of B),_,_,rfl,rfl,_,rfl,?_⟩;match st,U,B,O,S with
   |q0::q1::r,_,B,O,S=>refine bz (λ_=>?_) (λc=>absurd (decide_eq_true (by simp;omega)) c);refine bo ⟨by decide,qe ?_ Y L⟩;unfold cg;rw[O];rfl
   |[(x',p0,f0)],U,B,O,S=>
    obtain⟨rfl,Zt⟩:=U;refine bz (λc=>absurd (of_decide_eq_true c) (by simp)) (λ_=>?_);obtain⟨⟨ps,F,rp⟩,_⟩:=S.CZ (x',p0,f0) (by simp);dsimp only at F rp;obtain⟨Ze,d5,Y7,hd5⟩:=id F.obj;have jI:=rp.length;have hle:=S.le (x',p0,f0) (by simp);dsimp only at hle;rw[Zt]at hle F;refine⟨_,rfl,x',Ze,_,rfl,Y7,rfl,x',p0,_,_,_,_,rfl,F,_,rfl,?_⟩;cases M5:f0.parts with
     |nil=>rw[M5]at rp jI;cases rp;refine bo ⟨by decide,qe ?_ Y L⟩;unfold cg;rw[O];show f0.parts.head?=none;rw[M5];rfl
     |cons d l=>
      rw[M5]at rp jI hle;have :l=[]:=by cases l with|nil=>rfl|cons _ _=>simp at hle
      subst this;obtain⟨v,vs,rfl,rd,e0⟩:=rp;cases e0;obtain⟨rz,q1,q2⟩:=q d (by unfold cg;rw[O];show f0.parts.head?=some d;rw[M5];rfl);refine cB ⟨_,rfl,x',t.Form,Ze,_,_,rfl,Y7,aH.cls,aH.parts,rfl,p0,_,_,v,rfl,rfl,bj.of F.parts,aG (j:=0) rfl,d,v,rfl,rd,rz,λJ C hv=>q1 v J (L.trans C) (rd.mono C) hv,λJ C hv=>q2 J (L.trans C) hv⟩
end K54
end
section
namespace K54
open PySem L2 L3 KM PyProof.Rows
theorem oO:∀(x y:List Nat),fC 32 (x++32::y)=fC 32 x++fC 32 y
 |[],y=>by rw[jh];show(if 32=32 then[]::fC 32 y else _)=_;rw[if_pos rfl];rfl
 |a::x,y=>by
  have b:=oO x y;rw[List.cons_append];by_cases h:a=32;·rw[fC,if_pos h,b,fC,if_pos h];rfl
  ·rw[fC,if_neg h,b,fC,if_neg h];obtain⟨w,ws,e⟩:=ll 32 x;rw[e];rfl
theorem lX(x y:List Nat):bL (x++32::y)=bL x++bL y:=by unfold bL;rw[List.flatMap_append,nX,show sg 32=[32]from rfl,List.singleton_append,oO,List.filter_append]
theorem B9(c:Nat)(h:c=40\/c=41)(x y:List Nat):bL (x++c::y)=bL x++[c]::bL y:=by
 have e:sg c=[32,c,32]:=by rcases h with rfl|rfl<;>rfl
 have n:32∉[c]:=by rcases h with rfl|rfl<;>decide
 unfold bL;rw[List.flatMap_append,nX,e,show[32,c,32]++y.flatMap sg=32::([c]++32::y.flatMap sg)from rfl,oO,C_ n,List.filter_append,List.filter_cons];rfl
theorem B1(x y:List Nat):bL (x++10::y)=bL x++bL y:=by unfold bL;rw[List.flatMap_append,nX,show sg 10=[32]from rfl,List.singleton_append,oO,List.filter_append]
theorem tm{l:List Nat}(h:∀c∈l,brk c=false)(n:l≠[]):bL l=[l]:=by
 have b:∀c,brk c=false->c≠32/\c≠10/\c≠40/\c≠41:=λc h=>by unfold brk at h;simp at h;omega
 have e:l.flatMap sg=l:=by clear n;induction l with|nil=>rfl|cons a l d=>have :=b a (h a b5);rw[nX,d λc hc=>h c (cU _ hc)];unfold sg;rw[if_neg this.2.2.1,if_neg this.2.2.2,if_neg this.2.1];rfl
 unfold bL;rw[e,lV λm=>(b 32 (h 32 m)).1 rfl];cases l with|nil=>exact absurd rfl n|cons a l=>rfl
theorem kA:bL []=[]:=rfl
noncomputable abbrev isNm(z:Str):Bool:=cG (.str z)
theorem g0{z:Str}(h:isNm z=true):z.cps.toList≠[]/\z.length<=12/\bg.lookup z=none/\∀c∈z.cps.toList,d9 c=true:=by unfold isNm cG at h;rw[bW,bW,bW]at h;refine⟨λe=>?_,by have :=of_decide_eq_true h.2.1;omega,by simpa using h.2.2.1,λc hc=>List.all_eq_true.mp h.2.2.2 c hc⟩;have :=of_decide_eq_true h.1;rw[str_len,e]at this;simp at this
theorem yN{c:Nat}(h:d9 c=true):97<=c/\c<=122:=by unfold d9 at h;rw[StrLaws.found_one,show abc.cps.toList=[97,98,99,100,101,102,103,104,105,106,107,108,109,110,111,112,113,114,115,116,117,118,119,120,121,122]by decide+kernel]at h;simp at h;omega
theorem yV{c:Nat}(h:d9 c=true):brk c=false:=by have :=yN h;unfold brk;simp;omega
theorem Af{z:Str}(h:isNm z=true):bL z.cps.toList=[z.cps.toList]:=by obtain⟨n,_,_,hl⟩:=g0 h;exact tm (λc hc=>yV (hl c hc)) n
noncomputable def wS(l:List Nat):List Str:=(bL l).map tx
noncomputable def rd(names:List Str)(ws:List Str)(st:List Fo):Option (List Fo):=ir names ws.length ws st
variable{names ws rest:List Str}{st r:List Fo}{fo go f' g':Fo}{d:D}{z:Str}
theorem yW(h:cC (ws.take 2)=some fo):rd names ("("::ws) st=rd names (ws.drop (if fo.name=none then 1 else 2)) (fo::st):=by unfold rd;rw[bD];simp only[ir];rw[if_pos trivial,h];exact j8 _ _ _ _ _ (by rw[dJ];omega) (bB _)
theorem KL(h:fo.parts.length=fo.gT.length)(h2:cj go (OV fo)=some g'):rd names (")"::ws) (fo::go::r)=rd names ws (g'::r):=by unfold rd;rw[bD];simp only[ir];rw[if_neg (by decide+kernel),if_pos trivial,if_pos h,h2]
theorem LZ(a:z≠"(")(b:z≠")")(h:ck z names (fo::r)=some d)(h2:cj fo d=some f'):rd names (z::ws) (fo::r)=rd names ws (f'::r):=by unfold rd;rw[bD];simp only[ir];rw[if_neg a,if_neg b,h];simp only;rw[h2]
noncomputable def Mc:D:= .tup [.str "nat"]
noncomputable def HX:D:= .tup [.str "zero"]
theorem Sq:ck "nat" names st=some Mc:=by unfold ck;rw[if_pos (by decide+kernel)];rfl
theorem Qg(h:isNm z=true):ck z names st=some (xF z names st 0)/\z≠"("/\z≠")":=by
 obtain⟨n,hl,b,hc⟩:=g0 h;have ne:∀w:Str,(bg.lookup w).isSome=true\/(∃c∈w.cps.toList,d9 c=false)->z≠w:=λw hw e=>by
  subst e;rcases hw with hw|⟨c,h1,h2⟩;·rw[b]at hw;cases hw
  ·rw[hc c h1]at h2;cases h2
 have a:jP z=false:=by
  unfold jP;have :z.cps.toList.all vw=false:=by
   cases e:z.cps.toList with
    |nil=>exact absurd e n
    |cons c l=>
     have :=yN (hc c (by rw[e];exact b5));rw[List.all_cons];have :vw c=false:=by unfold vw;simp;omega
     rw[this,Bool.false_and]
  rw[this,Bool.false_and,Bool.and_false]
 refine⟨?_,ne _ (.inr ⟨40,by decide+kernel,by decide+kernel⟩),ne _ (.inr ⟨41,by decide+kernel,by decide+kernel⟩)⟩;unfold ck;rw[if_neg ?_,if_neg (by rw[a];decide),if_pos h];intro m;simp only[List.mem_cons,kh,or_false]at m;rcases m with m|m|m;all_goals exact ne _ (.inl (by decide+kernel)) m
noncomputable def yh(ws:List String):List Str:=ws.map Str.ofString
theorem XF{x y:Str}(h1:bq x≠[])(h2:jk x BO=false)(l:List Str):cC ((x::y::l).take 2)=some ⟨x,none,bq x,[]⟩:=by unfold cC;exact(if_neg h1).trans ((if_pos h2).trans rfl)
theorem Q9{x:Str}(h1:bq x≠[])(h2:jk x BO=false):cC ([x].take 2)=some ⟨x,none,bq x,[]⟩:=by unfold cC;exact(if_neg h1).trans ((if_pos h2).trans rfl)
theorem WH{x y:Str}(h1:bq x≠[])(h2:jk x BO=true)(a:isNm y=true)(l:List Str):cC ((x::y::l).take 2)=some ⟨x,some y,bq x,[]⟩:=by unfold cC;exact(if_neg h1).trans ((if_neg (show¬jk x BO=false by rw[h2];decide)).trans (if_pos a))
theorem tk{f:Fo}{dd:Str}(h:f.gT[f.parts.length]?=some dd)(e:BA d=decide (dd="kind")):cj f d=some {f with parts:=f.parts++[d]}:=by unfold cj;rw[h];exact if_pos e
noncomputable def eD(st:List Fo):List Str:=st.filterMap λf=>if uy f=true then f.name else none
theorem Lf(z:Str)(names:List Str):∀(st:List Fo)(b:Nat),xF z names st b=if z∈eD st then .tup [.str "var", .int ((b+(eD st).idxOf z:Nat):Int)]else if z∈names then .tup [.str "var", .int ((b+((eD st).length+names.idxOf z):Nat):Int)]else .tup [.str "name", .str z]
 |[],b=>by simp only[xF,eD,List.filterMap_nil,kh,if_false,dC,Nat.zero_add]
 |f::r,b=>by
  simp only[xF];by_cases hb:uy f=true
  ·rw[if_pos hb];obtain⟨y,c⟩:∃y,f.name=some y:=by unfold uy at hb;cases e:f.name with|none=>rw[e]at hb;cases hb|some y=>exact⟨y,rfl⟩
   have a:eD (f::r)=y::eD r:=by unfold eD;rw[nV,if_pos hb,c]
   rw[a,c];by_cases e:y=z;·subst e;rw[if_pos rfl,if_pos b5,List.idxOf_cons_self,Nat.add_zero]
   ·rw[if_neg λq=>e (Option.some.inj q),Lf z names r (b+1)];have hm:z∈y::eD r↔z∈eD r:=⟨λh=>(List.mem_cons.mp h).elim (λq=>absurd q.symm e) id,cU _⟩;by_cases h1:z∈eD r;·rw[if_pos h1,if_pos (hm.mpr h1),List.idxOf_cons,show(y==z)=false by simpa using e,cond_false];congr 4;omega
    ·rw[if_neg h1,if_neg λq=>h1 (hm.mp q),bD];by_cases h2:z∈names;·rw[if_pos h2,if_pos h2];congr 4;omega
     ·rw[if_neg h2,if_neg h2]
  ·rw[if_neg hb];have a:eD (f::r)=eD r:=by unfold eD;rw[nV,if_neg hb]
   rw[a];exact Lf z names r b
noncomputable def jm(z:Str)(over names:List Str):D:=if z∈over++names then .tup [.str "var", .int (((over++names).idxOf z:Nat):Int)]else .tup [.str "name", .str z]
theorem SD(z:Str)(names:List Str)(st:List Fo):xF z names st 0=jm z (eD st) names:=by
 rw[Lf];unfold jm;by_cases h1:z∈eD st;·rw[if_pos h1,if_pos (kP _ h1),List.idxOf_append,if_pos h1,Nat.zero_add]
 ·rw[if_neg h1];by_cases h2:z∈names;·rw[if_pos h2,if_pos (gP _ h2),List.idxOf_append,if_neg h1,Nat.zero_add,Nat.add_comm]
  ·rw[if_neg h2,if_neg λq=>(List.mem_append.mp q).elim h1 h2]
end K54
end
section
namespace L3
open PySem PySem.Spec PyProof.Rows L2 KM
noncomputable def bIf(c:TT)(t u:TB):TB:=λD G σ H=>c σ H λb a=>if b=true then t D G σ a else u D G σ a
theorem We{X:Cx}{c:Expr}{a b:List Stmt}{j:TT}{t u:TB}{k:Pos}(hc:PT X.DT c j)(ha:PB X a t)(hb:PB X b u):PB X [.If c a b k] (bIf j t u):=by
 intro pins s σ H D G I h;refine wpAny_execs_cons (fk (wpAny_If (E:=BX X pins G) (Q:=SP X pins D) (fk (hc pins s σ H _ (I.lJ _) h) (λd s1⟨e,g,i⟩=>?_) λ_ _ z=>z.elim)) (λf s1 q=>?_) λ_ _ z=>z);·cases d with|true=>exact ha pins s1 σ e D G g.ei i|false=>exact hb pins s1 σ e D G g.ei i
 ·cases f with|next=>exact wpAny_execs_nil q|brk=>exact q|cont=>exact q|ret u=>exact q
noncomputable def By(z:Str)(lo hi:Option Int):List Nat:=(z.cps.toList.drop (HT.cZ z.length 0 lo)).take (HT.cZ z.length z.length hi-HT.cZ z.length 0 lo)
theorem HP(lo hi:Option Int)(n:Nat):Builtin.Str.strSliceIndices lo hi 1 n=(List.range (HT.cZ n n hi-HT.cZ n 0 lo)).map (HT.cZ n 0 lo+·):=by rw[<-sliceRange_one];unfold Builtin.Str.strSliceIndices;obtain⟨h1,h2,_⟩:=kj lo hi n;rw[<-h1,<-h2];simp only[sliceBounds,Option.getD_none,show(1:Int)>0 by decide,if_true];cases lo<;>cases hi<;>rfl
noncomputable def Xg(e:TE)(g f h:TO):TE:=λσ H Q=>e σ H λx a=>g σ a λlo b=>f σ b λhi c=>h σ c λst d=>∃z,x= .str z/\z.length<=sizeLine/\st=none/\∀y:Str,y.cps.toList=By z lo hi->Q (.str y) d
theorem oi{X:Cx}{e:Expr}{lo hi st:Option Expr}{j pos:Pos}{A:TE}{C B D:TO}(V:PE X e A)(hl:PO X lo C)(W:PO X hi B)(ht:PO X st D)(hb:∀o i,∃ops,subscripted (.Slice lo hi st j) false o i=operate ops (getItem o i):=by intro o i;exact⟨_,rfl⟩):PE X (.Subscript e (.Slice lo hi st j) pos) (Xg A C B D):=by
 intro pins s σ H Q I h;refine Subscript_ (bR (V pins s σ H _ I h) λv s1 m=>?_);obtain⟨x,E,J,r1,q1⟩:=m;refine wpAny_Slice (bR (hl pins s1 σ E _ J q1) λvl s2⟨l,F,K,pl,q2⟩=>bR (W pins s2 σ F _ K q2) λvu s3⟨u,G,L,pu,q3⟩=>bR (ht pins s3 σ G _ L q3) λvt d m=>?_);obtain⟨t,n,M,pt,z,P,Z,U,q⟩:=m;subst P U;obtain⟨tk,rfl⟩:=r1;obtain⟨f,rfl,R⟩:=part_of pl;obtain⟨g,rfl,S⟩:=part_of pu;obtain⟨a,rfl,p⟩:=part_of pt;have N:Inv X pins σ n {d with heap:=d.heap.push {cls:= .type "slice",data:= .fields #[partValue f,partValue g,partValue a]}}:=M.kept (t':=d.toks) λb ob q=>cW _ q;have r:((a.map (·.1)).getD 1==0)=false:=by rw[p];rfl
 show wpAny (model X.prog X.w) X.A (subscriptTail e (.Slice lo hi st j) (.str z tk) (.ref d.heap.objs.size)) (EP X pins σ Q) X.xe _;obtain⟨ops,hb⟩:=hb (.str z tk) (.ref d.heap.objs.size);refine tail_any (ops:=ops) (T:="str") (typeIs_str _ _ _) PySem.F.slot_str_getitem.lookup (wpAny_getItem_str_slice (l:=f) (u:=g) (st:=a) ⟨_,gU _ rfl,rfl,rfl⟩ r ?_) hb;have ep:slicePicked z f g a=(List.range (HT.cZ z.length z.length u-HT.cZ z.length 0 l)).map (HT.cZ z.length 0 l+·):=by unfold slicePicked;rw[R,S,p];exact HP l u z.length
 have fin:∀y:Str,y.cps.toList=By z l u->∀t' k,EP X pins σ Q (.str y t') {d with heap:=d.heap.push {cls:= .type "slice",data:= .fields #[partValue f,partValue g,partValue a]},toks:=k}:=λy Y t' k=>⟨.str y,n,N.tok k,⟨t',rfl⟩,q y Y⟩;have w:z.cps.toList.length=z.length:=rfl;unfold sliceMade;split
 ·rename_i c;rw[bW,ep]at c;have O:HT.cZ z.length z.length u-HT.cZ z.length 0 l=z.length:=by simpa using c.2
  have :=HT.Ju z.length z.length (bB _) u;refine fin z ?_ _ _;unfold By;have a0:HT.cZ z.length 0 l=0\/z.length=0:=by lia
  rw[O];rcases a0 with a0|a0;·rw[a0,List.drop_zero,nM (by rw[w];exact bB _)]
  ·have :z.cps.toList=[]:=List.length_eq_zero_iff.mp (by rw[w];exact a0);rw[this];simp
 ·refine⟨?_,fin _ ?_ _ _⟩;·refine dI ?_ Z;show(List.filterMap _ (slicePicked z f g a)).toArray.size<=z.length;rw[dt];refine dI (List.length_filterMap_le _ _) ?_;exact sliceIndicesBy_le _ _ _ (by simpa using r) z.length
  ·show(slicePicked z f g a).filterMap (z.cps[·]?)=_;rw[ep,pick_run];rfl
theorem CF(z:Str)(k:Nat):By z none (some (k:Int))=z.cps.toList.take k:=by
 have a:z.cps.toList.length=z.length:=rfl;unfold By;rw[HT.k6,HT.gu,List.drop_zero,Nat.sub_zero];by_cases h:k<=z.length;·rw[Nat.min_eq_left h]
 ·rw[Nat.min_eq_right (by lia),nM (by lia),nM (by lia)]
theorem vX(z:Str)(k:Nat):By z (some (k:Int)) none=z.cps.toList.drop k:=by
 have a:z.cps.toList.length=z.length:=rfl;unfold By;rw[HT.k6,HT.gu];by_cases h:k<=z.length;·rw[Nat.min_eq_left h,nM (by rw[dJ];lia)]
 ·rw[Nat.min_eq_right (by lia),xu (by lia),xu (by lia)];simp
end L3
end
section
namespace K54
open PySem L2 L3 KM PyProof.Rows
seal L2.PE L2.PS L2.jx L2.PT L2.PW L2.PA L2.PG L2.G0 L2.PI L2.PC L2.PO L2.G3 L2.PK L3.Ba L3.LD L3.L6 L3.lA L3.W3
variable{P:Program}{w:World}{K:PySem.W.Frag}{mg:Str->Option Value}{base:Heap}{t:y_}
structure Sml(d:D)(k n:Nat):Prop where
 wf:fz bO false d=true
 dp:depth d<=k
 kn:bK d<=n
theorem Dr{z:Str}{over names:List Str}(h:over.length+names.length<=50):Sml (jm z over names) 1 1:=by
 unfold jm;split;·rename_i m;have :(over++names).idxOf z<(over++names).length:=List.idxOf_lt_length_iff.mpr m;rw[cx]at this;exact⟨RK (by omega) (by omega),by simp[depth,aO],by simp[bK,a_]⟩
 ·exact⟨L_ rfl,by simp[depth,aO],by simp[bK,a_]⟩
def MK(dd:Str)(K:PySem.W.Frag)(N G:Addr):Sp:=λvs H Q E=>∃(T:Str)(b:Addr),vs=[.str T, .ref b]/\qA K N G [.str T, .ref b, .str dd] H Q E
theorem yE:aJ ["text","names"] ["text","names"] (aq gz):=⟨rfl,rfl,rfl,by decide+kernel,rfl,by decide+kernel,by decide+kernel⟩
theorem AA(D:Df K mg "read_term" gz ["text","names"])(M:Mg mg t)(a:wI P w K mg (gK P w) "read_thing" 66 ["text","names","due"] (qA K t.aU t.gi)):da P w K mg (gK P w) "read_term" (67) ["text","names"] (MK "term" K t.aU t.gi):=by
 refine D.O8 yE (λvs H Q E h=>?_) (λbase f cH A outer s H vs Q E c h=>?_);·obtain⟨T,b,rfl,_⟩:=h;rfl
 obtain⟨T,b,rfl,h⟩:=h;exact⟨_,(ao (aB (Lr a c.m rfl fe (kg (pv 0) (kg (pv 1) FA))))),⟨_,rfl,_,rfl,h⟩⟩
theorem wJ:aJ ["text","names"] ["text","names"] (aq gm):=⟨rfl,rfl,rfl,by decide+kernel,rfl,by decide+kernel,by decide+kernel⟩
theorem AO(D:Df K mg "read_kind" gm ["text","names"])(M:Mg mg t)(a:wI P w K mg (gK P w) "read_thing" 66 ["text","names","due"] (qA K t.aU t.gi)):da P w K mg (gK P w) "read_kind" (67) ["text","names"] (MK "kind" K t.aU t.gi):=by
 refine D.O8 wJ (λvs H Q E h=>?_) (λbase f cH A outer s H vs Q E c h=>?_);·obtain⟨T,b,rfl,_⟩:=h;rfl
 obtain⟨T,b,rfl,h⟩:=h;exact⟨_,(ao (aB (Lr a c.m rfl fe (kg (pv 0) (kg (pv 1) FA))))),⟨_,rfl,_,rfl,h⟩⟩
theorem big{m:Nat}(h:m<=1000):m<=sizeLine:=dI h (by decide)
theorem uZ(a b:Str):(a++b).length=a.length+b.length:=Array.size_append
theorem jC(a b:Str):(a++b).cps.toList=a.cps.toList++b.cps.toList:=by show(a.cps++b.cps).toList=_;exact Array.toList_append
noncomputable def C5:List Str:=["nat","none","all","some","same","var","fun","app","zero","next","rec","like","carry","never","pair","first","second","name"]
def PX:Sp:=λvs H Q _=>vs=[]/\∀(a:Addr)(H':Hp),aD H H'->H' a=some (.lst (C5.map V.str))->Q (.ref a) H'
theorem iq:aJ ["_law_some"] [] (aq eE):=⟨rfl,rfl,rfl,by decide+kernel,rfl,by decide+kernel,by decide+kernel⟩
theorem sP(D:Df K mg "_law_reserved" eE [])(M:Mg mg t):da P w K mg cR "_law_reserved" (1) [] PX:=by
 refine D.ok iq (λvs H Q E h=>?_) (λbase f cH A outer s H vs Q E n h=>?_);·obtain⟨rfl,_⟩:=h;rfl
 obtain⟨rfl,q⟩:=h;refine⟨_,(ah (aE (i:=0) iq.nd rfl (dh rfl) (aT (aa ai (aa ai (aa ai (aa ai (aa ai (aa ai (aa ai (aa ai (aa ai (aa ai (aa ai (aa ai af)))))))))))))) (ao (aB (ay cD (pv 0) (aT (aa ai (aa ai (aa ai (aa ai (aa ai (aa ai af))))))))))),?_⟩;try dsimp only[j6,m]
 refine vn ?_;intro _ _;refine⟨(dF rfl),λa e=>?_⟩;refine⟨_,rfl,(dF rfl),λj b=>?_⟩;have c:=ak e (.lst [V.str "nat", .str "none", .str "all", .str "some", .str "same", .str "var", .str "fun", .str "app", .str "zero", .str "next", .str "rec", .str "like"]);have h1:(upd H a (.lst [V.str "nat", .str "none", .str "all", .str "some", .str "same", .str "var", .str "fun", .str "app", .str "zero", .str "next", .str "rec", .str "like"])) a=some (.lst [V.str "nat", .str "none", .str "all", .str "some", .str "same", .str "var", .str "fun", .str "app", .str "zero", .str "next", .str "rec", .str "like"]):=ag;generalize upd H a (.lst [V.str "nat", .str "none", .str "all", .str "some", .str "same", .str "var", .str "fun", .str "app", .str "zero", .str "next", .str "rec", .str "like"])=l at c h1 b⊢;have d:=ak b (.lst [V.str "carry", .str "never", .str "pair", .str "first", .str "second", .str "name"]);refine⟨a,j,_,_,rfl,rfl,d _ _ h1,ag,(dF rfl),λk g=>?_⟩;exact q k _ (c.trans (d.trans (ak g _))) ag
theorem vL(z:Str):bg.lookup z=none↔z∉C5:=by
 have e:C5=bg.map (·.1):=by decide+kernel
 rw[e];generalize bg=a;induction a with
  |nil=>simp
  |cons r a b=>
   rw[jg,gQ,List.mem_cons];by_cases h:z=r.1;·rw[show(z==r.1)=true by simpa using h];simp[h]
   ·rw[show(z==r.1)=false by simpa using h];simp only[h,false_or];exact b
theorem El{z:Str}(h1:z.cps.toList≠[])(h2:z.length<=12)(h3:∀c∈z.cps.toList,d9 c=true)(h4:z∉C5):isNm z=true:=by
 have :1<=z.length:=by rw[str_len];cases e:z.cps.toList with|nil=>exact absurd e h1|cons a l=>simp
 show(decide ((1:Int)<=z.length)&&(decide ((z.length:Int)<=12)&&((bg.lookup z).isNone&&z.cps.toList.all d9)))=true;rw[decide_eq_true (by omega),decide_eq_true (by omega),(vL z).mpr h4,Bool.true_and,Bool.true_and];exact List.all_eq_true.mpr h3
noncomputable def fG:Str:="abcdefghijklmnopqrstuvwxyz"
theorem MZ:fG.cps.toList.length=26:=by decide+kernel
theorem RO:(fG.cps.toList.all d9)=true:=by decide+kernel
theorem Cg{j:Int}(a:0<=j)(h1:j<26):∃c,zj fG.cps.toList j=some c/\d9 c=true:=by
 have hl:j.toNat<fG.cps.toList.length:=by rw[MZ];omega
 have e:=cN hl;refine⟨fG.cps.toList[j.toNat],?_,List.all_eq_true.mp RO _ (List.getElem_mem hl)⟩;have :=aG e;rw[show((j.toNat:Nat):Int)=j by omega]at this;exact this
theorem yv:(C5.all λz=>decide (2<=z.length)&&decide (z.length<=6))=true:=by decide+kernel
theorem VE:(C5.all λz=>decide (z.cps.toList.head?≠some 120))=true:=by decide+kernel
def lR:Sp:=λvs H Q _=>∃c:Int,vs=[.int c]/\∀(z:Str)(H':Hp),aD H H'->isNm z=true->Q (.str z) H'
theorem cq:aJ ["_law_cell","_law_some","_law_word","_law_at","_law_k"] ["_law_cell"] (aq eP):=⟨rfl,rfl,rfl,by decide+kernel,rfl,by decide+kernel,by decide+kernel⟩
theorem uW(D:Df K mg "_law_name_by" eP ["_law_cell"])(M:Mg mg t)(I:da P w K mg cR "_law_reserved" (1) [] PX):da P w K mg cR "_law_name_by" (2) ["_law_cell"] lR:=by
 refine D.ok cq (λvs H Q E h=>?_) (λbase f cH A outer s H vs Q E d h=>?_);·obtain⟨c,rfl,_⟩:=h;rfl
 obtain⟨c,rfl,q⟩:=h;have one:∀c:Nat,(⟨#[c]⟩:Str).length=1:=λc=>rfl;refine⟨_,(ah (aE (i:=1) cq.nd rfl (dh rfl) ai) (ah (aS (ar aN (ay bu (pv 0) aj) aj (az _)) (ao (aB (aZ lW (pv 1) (ay bu (ay bE (pv 0) aj) aj) (λ_ _=>rfl)))) aC) (ah (aE (i:=2) cq.nd rfl (dh rfl) ai) (ah (aS (ar aN (ay bu (pv 0) aj) aj (az _)) (ah (aE (i:=3) cq.nd rfl (dh rfl) (ay bu (ay bE (pv 0) aj) aj)) (ao (aB (ay cw (ay cw (oi (pv 2) bH (bp (pv 3)) bH) (aZ lW (pv 1) (ay bu (ay bE (pv 0) aj) aj) (λ_ _=>rfl))) (oi (pv 2) (bp (ay dz (pv 3) aj)) bH bH))))) aC) (ah (aE (i:=2) cq.nd rfl (dh rfl) ai) (ah (h_ PassesOwn.never rfl (eN rfl M.fE (aa (ay dz aj (ay bu (ay bE (pv 0) aj) aj)) af)) (cL (i:=4) cq.nd rfl (dh rfl)) (ao (aE (i:=2) cq.nd rfl (dh rfl) (ay cw (pv 2) (aZ lW (pv 1) (ay bu (ay dz (ay bE (pv 0) aj) (ay TU (pv 4) (ay bE (pv 0) aj))) aj) (λ_ _=>rfl)))))) (ah (aS (ar dX (pv 2) (Qn I d.m rfl bh) rfl) (ao (aB (ay cw ai (pv 2)))) aC) (ao (aB (pv 2)))))))))),?_⟩;try dsimp only[j6,X]
 refine Z6 ?_;intro _ _ _ _ _ _ _ _;refine⟨_,rfl,_,_,rfl,rfl,(by show(0:Int)<3;decide),rfl,_,rfl,bz (λ_=>?_) (λ_=>?_)⟩
 ·have R:=Int.emod_nonneg (c/3) (show(4:Int)≠0 by decide);have h1:=Int.emod_lt_of_pos (c/3) (show(0:Int)<4 by decide);obtain⟨a,ha,hb⟩:=Cg R (by omega);refine⟨_,rfl,_,rfl,_,_,rfl,rfl,⟨by decide,by decide⟩,_,_,rfl,rfl,(by show(0:Int)<4;decide),fG,_,_,rfl,rfl,(by decide),ha,q _ H (aD.refl _) (El (z:=⟨#[a]⟩) (by simp) (by rw[one];decide) (λx b=>?_) λm=>?_)⟩
  ·have :x=a:=by simpa using b
   rw[this];exact hb
  ·have :=List.all_eq_true.mp yv _ m;rw[one]at this;exact absurd this (by decide)
 refine⟨_,rfl,_,_,rfl,rfl,(by show(0:Int)<3;decide),rfl,_,rfl,bz (λ_=>?_) (λ_=>?_)⟩
 ·have a0:=Int.emod_nonneg (c/3) (show(12:Int)≠0 by decide);have a1:=Int.emod_lt_of_pos (c/3) (show(0:Int)<12 by decide);have j:=Int.emod_nonneg (c/36) (show(26:Int)≠0 by decide);have l:=Int.emod_lt_of_pos (c/36) (show(0:Int)<26 by decide);obtain⟨x,b,o⟩:=Cg j l;obtain⟨k,T⟩:∃k:Nat,c/3%12=(k:Int):=⟨(c/3%12).toNat,by omega⟩;have n:(Str.ofString "lookalikeone").length=12:=by decide+kernel
  have y:∀c∈(Str.ofString "lookalikeone").cps.toList,d9 c=true:=λc h=>List.all_eq_true.mp (show((Str.ofString "lookalikeone").cps.toList.all d9)=true by decide+kernel) c h;refine⟨_,rfl,_,_,rfl,rfl,⟨by decide,by decide⟩,_,_,rfl,rfl,(by show(0:Int)<12;decide),?_⟩;refine⟨_,rfl,_,rfl,(k:Int),congrArg V.int T,_,rfl,big (by rw[n];decide),rfl,λF p=>?_⟩;rw[CF]at p;have B:(Str.ofString "lookalikeone").cps.toList.length=12:=n;have Y:F.length=k:=by rw[str_len,p,dU,B];omega
  refine⟨_,rfl,_,rfl,_,_,rfl,rfl,⟨by decide,by decide⟩,_,_,rfl,rfl,(by show(0:Int)<26;decide),fG,_,_,rfl,rfl,(by decide),b,_,_,rfl,rfl,big (by rw[one];omega),?_⟩;refine⟨_,rfl,_,rfl,_,_,rfl,rfl,((k+1:Nat):Int),congrArg V.int (by omega),_,rfl,big (by rw[n];decide),rfl,λG r=>?_⟩;rw[vX]at r;have Z:G.length=12-(k+1):=by rw[str_len,r,dJ,B]
  refine⟨_,_,rfl,rfl,big (by rw[uZ,one];omega),?_⟩;have hlen:(F++⟨#[x]⟩++G:Str).length=12:=by rw[uZ,uZ,one];omega
  refine q _ H (aD.refl _) (El (by rw[jC,jC];simp) (by omega) (λa ha=>?_) λm=>?_)
  ·rw[jC,jC,List.mem_append,List.mem_append,p,r]at ha;rcases ha with(ha|ha)|ha;·exact y a (uB ha)
   ·have :a=x:=by simpa using ha
    rw[this];exact o
   ·exact y a (ud ha)
  ·have :=List.all_eq_true.mp yv _ m;rw[hlen]at this;exact absurd this (by decide)
 ·have a0:=Int.emod_nonneg (c/3) (show(12:Int)≠0 by decide);have a1:=Int.emod_lt_of_pos (c/3) (show(0:Int)<12 by decide);obtain⟨m,hm⟩:∃m:Nat,1+c/3%12=(m:Int):=⟨(1+c/3%12).toNat,by omega⟩;refine⟨_,rfl,_,_,rfl,rfl,⟨by decide,by decide⟩,_,_,rfl,rfl,(by show(0:Int)<12;decide),_,_,rfl,rfl,(m:Int),(by show[V.int (1+c/3%12)]=[V.int (m:Int)];rw[hm]),(by show-(2^62)<=((m:Nat):Int);omega),(by show((m:Nat):Int)<2^62;omega),?_⟩;have S:(((m:Nat):Int)).toNat=m:=by omega
  rw[S];let N:Nat->L2.St->Hp->Prop:=(λi v H'=>∃(wd:Str)(g u:Option V),v=[some (.int c),some (.str fG),some (.str wd),g,u]/\H'=H/\wd.length=i/\∀x∈wd.cps.toList,d9 x=true);refine jG m N ?_ ?_ ?_;·exact⟨"",none,none,rfl,rfl,by decide+kernel,λx b=>absurd b (by rw[show(Str.ofString "").cps.toList=[]by decide+kernel];simp)⟩
  ·rintro i v J hi⟨wd,g,u,rfl,rfl,hl,hc⟩;refine⟨hi,?_⟩;rintro x' L⟨rfl,rfl⟩;have O:(0:Int)+(i:Int)=((i:Nat):Int):=by omega
   rw[O];have j:=Int.emod_nonneg (c/36+(i:Int)*(c/7)) (show(26:Int)≠0 by decide);have l:=Int.emod_lt_of_pos (c/36+(i:Int)*(c/7)) (show(0:Int)<26 by decide);obtain⟨x,b,o⟩:=Cg j l;refine⟨_,rfl,_,rfl,_,rfl,_,_,rfl,rfl,⟨by decide,by decide⟩,_,rfl,_,rfl,_,_,rfl,rfl,⟨by decide,by decide⟩,_,_,rfl,rfl, .inl ⟨by omega,by omega⟩,_,_,rfl,rfl,_,_,rfl,rfl,(by show(0:Int)<26;decide),fG,_,_,rfl,rfl,(by decide),b,_,_,rfl,rfl,big (by rw[one];omega),?_⟩;refine⟨wd++⟨#[x]⟩,_,_,rfl,rfl,by rw[uZ,one,hl],λa ha=>?_⟩;rw[jC,List.mem_append]at ha;rcases ha with ha|ha;·exact hc a ha
   ·have :a=x:=by simpa using ha
    rw[this];exact o
  ·rintro v J⟨wd,g,u,rfl,rfl,hl,hc⟩;refine⟨bB _,?_⟩;have U:wd.cps.toList≠[]:=λe=>by rw[str_len,e]at hl;simp at hl;omega
   refine⟨_,rfl,rfl,λa L s2 h2=>?_⟩;refine⟨a,C5.map V.str,rfl, .inl (bj.of h2),rfl,gL _,_,rfl,?_⟩;rw[gF];by_cases d:wd∈C5
   ·rw[show(if false=true then !decide (wd∈C5)else decide (wd∈C5))=true by rw[decide_eq_true d];rfl];have b:(Str.ofString "x").cps.toList=[120]:=by decide+kernel
    have C:(Str.ofString "x").length=1:=by decide+kernel
    have h6:wd.length<=6:=by have :=List.all_eq_true.mp yv _ d;rw[bW]at this;exact of_decide_eq_true this.2
    refine bo ⟨_,rfl,_,_,rfl,rfl,big (by rw[C];omega),q _ _ s2 (El (by rw[jC,b];simp) (by rw[uZ,C];omega) (λa ha=>?_) λW=>?_)⟩
    ·rw[jC,b,List.mem_append]at ha;rcases ha with ha|ha
     ·have :a=120:=by simpa using ha
      rw[this];decide+kernel
     ·exact hc a ha
    ·have :=List.all_eq_true.mp VE _ W;rw[jC,b]at this;exact absurd this (by simp)
   ·rw[show(if false=true then !decide (wd∈C5)else decide (wd∈C5))=false by rw[decide_eq_false d];rfl];exact cB ⟨_,rfl,q wd _ s2 (El U (by omega) hc d)⟩
end K54
end
section
namespace K54
open PySem L2 L3 KM PyProof.Rows
structure GF(scope:List Str)(k:Bool)(d:D)(ws:List Str):Prop where
 kd:BA d=k
 wf:fz bO k d=true
 cm:h8 d=true
 wd:∀y∈ws,1<=y.length/\y.length<=12
 br:∀y∈ws,bL y.cps.toList=[y.cps.toList]
 rd:∀(names:List Str)(fo:Fo)(r:List Fo)(f':Fo)(rest:List Str),eD (fo::r)++names=scope->cj fo d=some f'->rd names (ws++rest) (fo::r)=rd names rest (f'::r)
theorem iJ{scope:List Str}{k:Bool}{d:D}{z:Str}(h1:BA d=k)(h2:fz bO k d=true)(h3:h8 d=true)(h4:1<=z.length/\z.length<=12)(h5:bL z.cps.toList=[z.cps.toList])(b:z≠"(")(c:z≠")")(h6:∀(names:List Str)(st:List Fo),eD st++names=scope->ck z names st=some d):GF scope k d [z]:=⟨h1,h2,h3,λy a=>by rw[List.mem_singleton.mp a];exact h4,λy a=>by rw[List.mem_singleton.mp a];exact h5,λnames fo r f' rest e ht=>LZ b c (h6 names _ e) ht⟩
structure Dj(scope:List Str)(x:Str)(bn:Option Str)(ps:List D)(ws:List Str):Prop where
 le:ps.length<=(bq x).length
 wf:∀(i:Nat)(p:D),ps[i]?=some p->∃dd:Str,(bq x)[i]?=some dd/\BA p=decide (dd="kind")/\fz bO (decide (dd="kind")) p=true
 cm:vp ps=true
 wd:∀y∈ws,1<=y.length/\y.length<=12
 br:∀y∈ws,bL y.cps.toList=[y.cps.toList]
 rd:∀(names:List Str)(st:List Fo)(rest:List Str),eD st++names=scope->rd names (ws++rest) st=rd names rest (⟨x,bn,bq x,ps⟩::st)
noncomputable def NT(scope:List Str)(x:Str)(bn:Option Str)(i:Nat):List Str:=match bn with|some n=>if gw x= .int (i:Nat)then n::scope else scope|none=>scope
theorem K9{x:Str}{bn:Option Str}{ps:List D}{st:List Fo}{names scope:List Str}(h:eD st++names=scope):eD (⟨x,bn,bq x,ps⟩::st)++names=NT scope x bn ps.length:=by
 cases bn with
  |none=>
   have a:eD (⟨x,none,bq x,ps⟩::st)=eD st:=by unfold eD;rw[nV];rfl
   rw[a];exact h
  |some n=>
   by_cases c:gw x= .int ((ps.length:Nat):Int)
   ·have hb:uy ⟨x,some n,bq x,ps⟩=true:=by show(true&&decide (gw x= .int ((ps.length:Nat):Int)))=true;rw[decide_eq_true c];rfl
    have a:eD (⟨x,some n,bq x,ps⟩::st)=n::eD st:=by unfold eD;rw[nV,if_pos hb]
    rw[a,List.cons_append,h];show _=(if gw x= .int ((ps.length:Nat):Int)then n::scope else scope);rw[if_pos c]
   ·have hb:¬uy ⟨x,some n,bq x,ps⟩=true:=by show¬(true&&decide (gw x= .int ((ps.length:Nat):Int)))=true;rw[decide_eq_false c];decide
    have a:eD (⟨x,some n,bq x,ps⟩::st)=eD st:=by unfold eD;rw[nV,if_neg hb]
    rw[a,h];show _=(if gw x= .int ((ps.length:Nat):Int)then n::scope else scope);rw[if_neg c]
theorem Dj.next{scope:List Str}{x:Str}{bn:Option Str}{ps:List D}{ws iz:List Str}{k:Bool}{d:D}{dd:Str}(P:Dj scope x bn ps ws)(hd:(bq x)[ps.length]?=some dd)(c:k=decide (dd="kind"))(G:GF (NT scope x bn ps.length) k d iz):Dj scope x bn (ps++[d]) (ws++iz):=by
 have lt:ps.length<(bq x).length:=(List.getElem?_eq_some_iff.mp hd).1;refine⟨by rw[cx,List.length_singleton];exact lt,λi p e=>?_,?_,λy b=>?_,λy b=>?_,λnames st rest e=>?_⟩
 ·by_cases hi:i<ps.length;·rw[AL hi]at e;exact P.wf i p e
  ·rw[List.getElem?_append_right (by omega)]at e;have g:i-ps.length=0:=by cases h:i-ps.length with|zero=>rfl|succ n=>rw[h]at e;simp at e
   rw[g]at e;cases e;have j:i=ps.length:=by omega
   subst j;subst c;exact⟨dd,hd,G.kd,G.wf⟩
 ·have f:∀(l:List D),vp l=true->vp (l++[d])=true:=λl=>by induction l with|nil=>intro _;show(h8 d&&true)=true;rw[G.cm];rfl|cons a l m=>intro h;have h:(h8 a&&vp l)=true:=h;rw[bW]at h;show(h8 a&&vp (l++[d]))=true;rw[h.1,m h.2];rfl
  exact f ps P.cm
 ·rcases List.mem_append.mp b with h|h;·exact P.wd y h
  ·exact G.wd y h
 ·rcases List.mem_append.mp b with h|h;·exact P.br y h
  ·exact G.br y h
 ·rw[List.append_assoc,P.rd names st _ e];exact G.rd names _ st _ rest (K9 e) (tk hd (by rw[G.kd,c]))
theorem Dj.X6{scope:List Str}{x:Str}(h1:bq x≠[])(h2:jk x BO=false)(h3:1<=x.length/\x.length<=12)(h4:bL x.cps.toList=[x.cps.toList]):Dj scope x none [] (yh ["("]++[x]):=by
 refine⟨fV _,λi p e=>by simp at e,rfl,λy a=>?_,λy a=>?_,λnames st rest e=>?_⟩
 ·simp only[yh,gQ,List.map_nil,List.cons_append,jh,List.mem_cons,kh,or_false]at a;rcases a with rfl|rfl;·exact⟨by decide+kernel,by decide+kernel⟩
  ·exact h3
 ·simp only[yh,gQ,List.map_nil,List.cons_append,jh,List.mem_cons,kh,or_false]at a;rcases a with rfl|rfl;·decide+kernel
  ·exact h4
 ·show K54.rd names ("("::x::rest) st=_;cases rest with|nil=>rw[yW (Q9 h1 h2)];rfl|cons y l=>rw[yW (XF h1 h2 l)];rfl
theorem Dj.UX{scope:List Str}{x n:Str}(h1:bq x≠[])(h2:jk x BO=true)(h3:1<=x.length/\x.length<=12)(h4:bL x.cps.toList=[x.cps.toList])(hn:isNm n=true):Dj scope x (some n) [] (yh ["("]++[x]++[n]):=by
 have c:=g0 hn;have d:1<=n.length:=by rw[str_len];cases e:n.cps.toList with|nil=>exact absurd e c.1|cons a l=>simp
 refine⟨fV _,λi p e=>by simp at e,rfl,λy b=>?_,λy b=>?_,λnames st rest e=>?_⟩
 ·simp only[yh,gQ,List.map_nil,List.cons_append,jh,List.mem_cons,kh,or_false]at b;rcases b with rfl|rfl|rfl;·exact⟨by decide+kernel,by decide+kernel⟩
  ·exact h3
  ·exact⟨d,c.2.1⟩
 ·simp only[yh,gQ,List.map_nil,List.cons_append,jh,List.mem_cons,kh,or_false]at b;rcases b with rfl|rfl|rfl;·decide+kernel
  ·exact h4
  ·exact Af hn
 ·show K54.rd names ("("::x::n::rest) st=_;rw[yW (WH h1 h2 hn rest)];rfl
theorem Ly{x:Str}:∀(b:List Nat)(ps:List D)(ds:List Str),ds=b.map (λc=>if c=107 then Str.ofString "kind"else"term")->(∀c∈b,c=107\/c=116)->ps.length=ds.length->(∀(i:Nat)(p:D),ps[i]?=some p->∃dd:Str,ds[i]?=some dd/\BA p=decide (dd="kind")/\fz bO (decide (dd="kind")) p=true)->m7 bO b ps=true
 |[],[],_,_,_,_,_=>rfl
 |[],_::_,_,rfl,_,h,_=>by simp at h
 |_::_,[],_,rfl,_,h,_=>by simp at h
 |c::b,p::ps,_,rfl,hc,h,f=>by
  obtain⟨dd,a,_,d⟩:=f 0 p rfl;have g:=Ly (x:=x) b ps _ rfl (λc h=>hc c (cU _ h)) (by simpa using h) λi q e=>f (i+1) q e;rw[dP,g,Bool.and_true];have a:(if c=107 then Str.ofString "kind"else"term")=dd:=Option.some.inj a;unfold sE;rcases hc c b5 with rfl|rfl;·rw[if_pos rfl]at a⊢;subst a;exact d
  ·rw[if_neg (by decide)]at a;rw[if_neg (by decide),if_pos rfl];subst a;exact d
noncomputable def AQ:List Str:=["all","some","same","fun","app","next","rec","like","carry","never","pair","first","second"]
noncomputable def nu(x:Str):Bool:=decide (x∈(["all","some","same"]:List Str))
theorem Ii:(AQ.all λx=>decide (bq x≠[])&&(decide (x.length<=12)&&(decide (1<=x.length)&&(decide (bL x.cps.toList=[x.cps.toList])&&((dB x==nu x)&&((PyData.str x).canLay0&&(match eL x with| .str s=>decide (bq x=s.cps.toList.map (λc=>if c=107 then Str.ofString "kind"else"term"))&&s.cps.toList.all (λc=>decide (c=107\/c=116))|_=>false)))))))=true:=by decide+kernel
theorem Dj.close{scope:List Str}{x:Str}{bn:Option Str}{ps:List D}{ws:List Str}(f:x∈AQ)(P:Dj scope x bn ps ws)(hl:ps.length=(bq x).length):GF scope (nu x) (.tup (.str x::ps)) (ws++yh [")"]):=by
 have h:=List.all_eq_true.mp Ii x f;simp only[bW]at h;obtain⟨h1,h2,h3,h4,h5,h6,a⟩:=h;have d:dB x=nu x:=by simpa using h5
 refine⟨d,?_,?_,λy b=>?_,λy b=>?_,λnames fo r f' rest e ht=>?_⟩;·cases es:eL x with|str s=>rw[es]at a;rw[bW]at a;refine jZ es d (Ly (x:=x) _ _ _ (of_decide_eq_true a.1) (λc hc=>of_decide_eq_true (List.all_eq_true.mp a.2 c hc)) hl P.wf)|_=>rw[es]at a;cases a
 ·show((PyData.str x).canLay0&&vp ps)=true;rw[h6,P.cm];rfl
 ·rcases List.mem_append.mp b with h|h;·exact P.wd y h
  ·have :y=")":=by simpa[yh]using h
   rw[this];exact⟨by decide+kernel,by decide+kernel⟩
 ·rcases List.mem_append.mp b with h|h;·exact P.br y h
  ·have :y=")":=by simpa[yh]using h
   rw[this];decide+kernel
 ·rw[List.append_assoc,P.rd names (fo::r) _ e];exact KL hl ht
end K54
end
section
namespace K54
open PySem L2 L3 KM PyProof.Rows
seal L2.PE L2.PS L2.jx L2.PT L2.PW L2.PA L2.PG L2.G0 L2.PI L2.PC L2.PO L2.G3 L2.PK L3.Ba L3.LD L3.L6 L3.lA L3.W3
variable{P:Program}{w:World}{K:PySem.W.Frag}{mg:Str->Option Value}{base:Heap}{t:y_}
theorem sd(x y:Str):decide (V.str x=V.str y)=decide (x=y):=by
 by_cases h:x=y;·rw[h];simp
 ·rw[decide_eq_false h];exact decide_eq_false λq=>h (by injection q)
noncomputable def iw(x:Str):Str:=if x="all"\/x="some"then"kk"else if x="fun"\/x="like"\/x="never"then"kt"else if x="same"\/x="carry"\/x="pair"then"ktt"else if x="app"then"tt"else if x="rec"then"kttt"else"t"
def D4:Sp:=λvs H Q _=>∃x:Str,vs=[.str x]/\Q (.str (iw x)) H
theorem yP:aJ ["_law_word"] ["_law_word"] (aq gq):=⟨rfl,rfl,rfl,by decide+kernel,rfl,by decide+kernel,by decide+kernel⟩
theorem A4(D:Df K mg "_law_shape" gq ["_law_word"])(M:Mg mg t):da P w K mg cR "_law_shape" (1) ["_law_word"] D4:=by
 refine D.ok yP (λvs H Q E h=>?_) (λbase f cH A outer s H vs Q E y h=>?_);·obtain⟨x,rfl,_⟩:=h;rfl
 obtain⟨x,rfl,q⟩:=h;refine⟨_,(ah (aS (L2.PW.pt (dN (ar aN (pv 0) ai (az _)) (dH (ar aN (pv 0) ai (az _))))) (ao (aB ai)) aC) (ah (aS (L2.PW.pt (dN (ar aN (pv 0) ai (az _)) (dN (ar aN (pv 0) ai (az _)) (dH (ar aN (pv 0) ai (az _)))))) (ao (aB ai)) aC) (ah (aS (L2.PW.pt (dN (ar aN (pv 0) ai (az _)) (dN (ar aN (pv 0) ai (az _)) (dH (ar aN (pv 0) ai (az _)))))) (ao (aB ai)) aC) (ah (aS (ar aN (pv 0) ai (az _)) (ao (aB ai)) aC) (ah (aS (ar aN (pv 0) ai (az _)) (ao (aB ai)) aC) (ao (aB ai))))))),?_⟩;try dsimp only[j6,v]
 refine RE ?_;intro _ _ _ _ _ _;refine⟨_,rfl,rfl,_,rfl,?_⟩;rw[sd];by_cases c:x="all"
 ·have e:iw x="kk":=by unfold iw;rw[if_pos (.inl c)]
  rw[e]at q;rw[decide_eq_true c];exact bo (bo q)
 rw[decide_eq_false c];refine cB ⟨_,rfl,rfl,_,rfl,?_⟩;rw[sd];by_cases d:x="some"
 ·have e:iw x="kk":=by unfold iw;rw[if_pos (.inr d)]
  rw[e]at q;rw[decide_eq_true d];exact bo q
 rw[decide_eq_false d];have a:¬(x="all"\/x="some"):=λh=>h.elim c d;refine cB ⟨_,rfl,rfl,_,rfl,?_⟩;rw[sd];by_cases g:x="fun"
 ·have e:iw x="kt":=by unfold iw;rw[if_neg a,if_pos (.inl g)]
  rw[e]at q;rw[decide_eq_true g];exact bo (bo q)
 rw[decide_eq_false g];refine cB ⟨_,rfl,rfl,_,rfl,?_⟩;rw[sd];by_cases i:x="like"
 ·have e:iw x="kt":=by unfold iw;rw[if_neg a,if_pos (.inr (.inl i))]
  rw[e]at q;rw[decide_eq_true i];exact bo (bo q)
 rw[decide_eq_false i];refine cB ⟨_,rfl,rfl,_,rfl,?_⟩;rw[sd];by_cases j:x="never"
 ·have e:iw x="kt":=by unfold iw;rw[if_neg a,if_pos (.inr (.inr j))]
  rw[e]at q;rw[decide_eq_true j];exact bo q
 rw[decide_eq_false j];have b:¬(x="fun"\/x="like"\/x="never"):=λh=>h.elim g λh=>h.elim i j;refine cB ⟨_,rfl,rfl,_,rfl,?_⟩;rw[sd];by_cases k:x="same"
 ·have e:iw x="ktt":=by unfold iw;rw[if_neg a,if_neg b,if_pos (.inl k)]
  rw[e]at q;rw[decide_eq_true k];exact bo (bo q)
 rw[decide_eq_false k];refine cB ⟨_,rfl,rfl,_,rfl,?_⟩;rw[sd];by_cases l:x="carry"
 ·have e:iw x="ktt":=by unfold iw;rw[if_neg a,if_neg b,if_pos (.inr (.inl l))]
  rw[e]at q;rw[decide_eq_true l];exact bo (bo q)
 rw[decide_eq_false l];refine cB ⟨_,rfl,rfl,_,rfl,?_⟩;rw[sd];by_cases m:x="pair"
 ·have e:iw x="ktt":=by unfold iw;rw[if_neg a,if_neg b,if_pos (.inr (.inr m))]
  rw[e]at q;rw[decide_eq_true m];exact bo q
 rw[decide_eq_false m];have p:¬(x="same"\/x="carry"\/x="pair"):=λh=>h.elim k λh=>h.elim l m;refine cB ⟨_,rfl,rfl,_,rfl,?_⟩;rw[sd];by_cases n:x="app"
 ·have e:iw x="tt":=by unfold iw;rw[if_neg a,if_neg b,if_neg p,if_pos (n)]
  rw[e]at q;rw[decide_eq_true n];exact bo q
 rw[decide_eq_false n];have r:=n;refine cB ⟨_,rfl,rfl,_,rfl,?_⟩;rw[sd];by_cases o:x="rec"
 ·have e:iw x="kttt":=by unfold iw;rw[if_neg a,if_neg b,if_neg p,if_neg r,if_pos (o)]
  rw[e]at q;rw[decide_eq_true o];exact bo q
 rw[decide_eq_false o];have u:=o;have e:iw x="t":=by unfold iw;rw[if_neg a,if_neg b,if_neg p,if_neg r,if_neg u]
 rw[e]at q;exact cB q
noncomputable def lQ(x:Str):Int:=if x="all"\/x="some"\/x="fun"then 1 else if x="rec"\/x="carry"then 0 else-1
def J9:Sp:=λvs H Q _=>∃x:Str,vs=[.str x]/\Q (.int (lQ x)) H
theorem xb:aJ ["_law_word"] ["_law_word"] (aq gx):=⟨rfl,rfl,rfl,by decide+kernel,rfl,by decide+kernel,by decide+kernel⟩
theorem AY(D:Df K mg "_law_bound" gx ["_law_word"])(M:Mg mg t):da P w K mg cR "_law_bound" (1) ["_law_word"] J9:=by
 refine D.ok xb (λvs H Q E h=>?_) (λbase f cH A outer s H vs Q E l h=>?_);·obtain⟨x,rfl,_⟩:=h;rfl
 obtain⟨x,rfl,q⟩:=h;refine⟨_,(ah (aS (L2.PW.pt (dN (ar aN (pv 0) ai (az _)) (dN (ar aN (pv 0) ai (az _)) (dH (ar aN (pv 0) ai (az _)))))) (ao (aB aj)) aC) (ah (aS (L2.PW.pt (dN (ar aN (pv 0) ai (az _)) (dH (ar aN (pv 0) ai (az _))))) (ao (aB aj)) aC) (ao (aB (Ib Bo aj))))),?_⟩;try dsimp only[j6,k]
 refine Ro ?_;intro _ _ _;refine⟨_,rfl,rfl,_,rfl,?_⟩;rw[sd];by_cases a:x="all"
 ·have e:lQ x=1:=by unfold lQ;rw[if_pos (.inl a)]
  rw[e]at q;rw[decide_eq_true a];exact bo (bo q)
 rw[decide_eq_false a];refine cB ⟨_,rfl,rfl,_,rfl,?_⟩;rw[sd];by_cases b:x="some"
 ·have e:lQ x=1:=by unfold lQ;rw[if_pos (.inr (.inl b))]
  rw[e]at q;rw[decide_eq_true b];exact bo (bo q)
 rw[decide_eq_false b];refine cB ⟨_,rfl,rfl,_,rfl,?_⟩;rw[sd];by_cases c:x="fun"
 ·have e:lQ x=1:=by unfold lQ;rw[if_pos (.inr (.inr c))]
  rw[e]at q;rw[decide_eq_true c];exact bo q
 rw[decide_eq_false c];have i:¬(x="all"\/x="some"\/x="fun"):=λh=>h.elim a λh=>h.elim b c;refine cB ⟨_,rfl,rfl,_,rfl,?_⟩;rw[sd];by_cases d:x="rec"
 ·have e:lQ x=0:=by unfold lQ;rw[if_neg i,if_pos (.inl d)]
  rw[e]at q;rw[decide_eq_true d];exact bo (bo q)
 rw[decide_eq_false d];refine cB ⟨_,rfl,rfl,_,rfl,?_⟩;rw[sd];by_cases g:x="carry"
 ·have e:lQ x=0:=by unfold lQ;rw[if_neg i,if_pos (.inr g)]
  rw[e]at q;rw[decide_eq_true g];exact bo q
 rw[decide_eq_false g];have j:¬(x="rec"\/x="carry"):=λh=>h.elim d g;have e:lQ x=-1:=by unfold lQ;rw[if_neg i,if_neg j]
 rw[e]at q;exact cB ⟨_,rfl,q⟩
def sJ(K:PySem.W.Frag):Sp:=λvs H Q _=>∃(z:Str)(sc:Addr)(scope:List Str),vs=[.str z, .ref sc]/\H sc=some (.lst (scope.map V.str))/\scope.length<=100/\z.length<=1000/\∀(v:V)(H':Hp),aD H H'->Rep H' (jm z scope []) v->Q v H'
theorem ze:aJ ["_law_word","_law_scope"] ["_law_word","_law_scope"] (aq gh):=⟨rfl,rfl,rfl,by decide+kernel,rfl,by decide+kernel,by decide+kernel⟩
theorem Aw(D:Df K mg "_law_named" gh ["_law_word","_law_scope"])(M:Mg mg t):da P w K mg cR "_law_named" (1) ["_law_word","_law_scope"] (sJ K):=by
 refine D.ok ze (λvs H Q E h=>?_) (λbase f cH A outer s H vs Q E i h=>?_);·obtain⟨z,sc,scope,rfl,_⟩:=h;rfl
 obtain⟨z,sc,scope,rfl,b,hl,e,q⟩:=h;refine⟨_,(ah (aS (ar dX (pv 0) (pv 1) rfl) (ao (aB (bQ (aa ai (aa (mB PySem.F.plainAttrs_list PySem.F.slot_list_index PySem.F.type_list_index vG (pv 1) (aa (pv 0) af)) af))))) aC) (ao (aB (bQ (aa ai (aa (pv 0) af)))))),?_⟩;try dsimp only[j6,g]
 refine vn ?_;intro _ _;have d:jm z scope []=if z∈scope then .tup [.str "var", .int ((scope.idxOf z:Nat):Int)]else .tup [.str "name", .str z]:=by unfold jm;rw[eY]
 rw[d]at q;refine⟨_,rfl,_,rfl,sc,_,rfl, .inl (bj.of b),rfl,gL _,_,rfl,?_⟩;rw[gF];by_cases hm:z∈scope;·rw[show(if false=true then !decide (z∈scope)else decide (z∈scope))=true by rw[decide_eq_true hm];rfl];rw[if_pos hm]at q;refine bo ⟨_,rfl, .inl ⟨rfl,_,bj.of b⟩,_,rfl,sc,scope,z,rfl,rfl,bj.of b,hm,(by omega),(dF rfl),λc a=>?_⟩;exact q _ _ (ak a _) ⟨c,_,rfl,ag,_,_,rfl,⟨rfl,by decide+kernel⟩,_,_,rfl,rfl,rfl⟩
 ·rw[show(if false=true then !decide (z∈scope)else decide (z∈scope))=false by rw[decide_eq_false hm];rfl];rw[if_neg hm]at q;refine cB ⟨_,rfl,(dF rfl),λc a=>?_⟩;exact q _ _ (ak a _) ⟨c,_,rfl,ag,_,_,rfl,⟨rfl,by decide+kernel⟩,_,_,rfl,⟨rfl,e⟩,rfl⟩
structure KI(p:Addr)(scope:List Str)(k:Bool)(i left:Int)(H:Hp)(r:Addr)(H':Hp):Prop where
 ex:∃(q:Addr)(u:V)(d:D)(ws:List Str)(eW:Int),bM p H H'/\H' p=some (.lst [.int i, .int eW])/\0<=eW/\eW<=left/\GF scope k d ws/\ws.length=1/\depth d<=31/\((bK d:Nat):Int)<=1+(left-eW)/\H' r=some (.tup [u, .ref q])/\H' q=some (.lst (ws.map V.str))/\Rep H' d u/\H q=none
theorem sR{H:Hp}{p:Addr}{x:Str}{ds:List D}{vs:List V}(h:H p=some (.tup (.str x::vs)))(a:x.length<=1000)(r:bS H ds vs):Rep H (.tup (.str x::ds)) (.ref p):=⟨p,_,rfl,h,_,_,rfl,⟨rfl,a⟩,r⟩
theorem Mb{z:Str}(h:isNm z=true):(PyData.str z).canLay0=true:=by obtain⟨_,_,_,hc⟩:=g0 h;show(z.cps.all λc=>decide (c<0x110000))=true;rw[<-Array.all_toList,List.all_eq_true];intro c h;have :=yN (hc c h);exact decide_eq_true (by omega)
theorem JH{z:Str}(h:isNm z=true)(scope:List Str):h8 (jm z scope [])=true:=by
 unfold jm;split;·show(h8 (.str "var")&&(h8 (.int _)&&true))=true;rw[show h8 (.str "var")=true by decide+kernel];rfl
 ·show(h8 (.str "name")&&(h8 (.str z)&&true))=true;rw[show h8 (.str "name")=true by decide+kernel,show h8 (.str z)=true from Mb h];rfl
theorem B5{p q:Addr}{H a:Hp}{o:HO}(s:bM p H a)(b:a p=some o)(h:a q=none):H q=none:=by
 cases e:H q with
  |none=>rfl
  |some u=>
   by_cases n:q=p;·rw[n,b]at h;cases h
   ·rw[s _ _ n e]at h;cases h
theorem sV{p b c:Addr}{scope:List Str}{k:Bool}{i left eW:Int}{H a:Hp}{u:V}{d:D}{z:Str}(g:bM p H a)(f:a p=some (.lst [.int i, .int eW]))(j:0<=eW)(h1:eW<=left)(G:GF scope k d [z])(hd:depth d<=31)(l:((bK d:Nat):Int)<=1+(left-eW))(rd:Rep a d u)(hq:a b=none)(m:(upd a b (.lst [V.str z])) c=none):KI p scope k i left H c (upd (upd a b (.lst [V.str z])) c (.tup [u, .ref b])):=by have n:=ak hq (.lst [V.str z]);have h:=ak m (.tup [u, .ref b]);have e:=n.trans h;exact⟨b,u,d,[z],eW,g.trans e.x,e _ _ f,j,h1,G,rfl,hd,l,ag,h _ _ ag,rd.mono e,B5 g f hq⟩
theorem X9{scope:List Str}:GF scope true Mc [Str.ofString "nat"]:=iJ (by show dB "nat"=true;decide+kernel) RP (by decide+kernel) ⟨by decide+kernel,by decide+kernel⟩ (by decide+kernel) (by decide+kernel) (by decide+kernel) λnames st e=>Sq
theorem SX{scope:List Str}:GF scope true (.tup [.str "none"]) [Str.ofString "none"]:=iJ (by show dB "none"=true;decide+kernel) (jZ (w:="none") (s:="") (by decide+kernel) (by decide+kernel) (by rw[show(Str.ofString "").cps.toList=[]by decide+kernel];rfl)) (by decide+kernel) ⟨by decide+kernel,by decide+kernel⟩ (by decide+kernel) (by decide+kernel) (by decide+kernel) λnames st e=>by unfold ck;rw[if_pos (by decide+kernel)]
theorem R1{scope:List Str}:GF scope false HX [Str.ofString "zero"]:=iJ (by show dB "zero"=false;decide+kernel) C8 (by decide+kernel) ⟨by decide+kernel,by decide+kernel⟩ (by decide+kernel) (by decide+kernel) (by decide+kernel) λnames st e=>by unfold ck;rw[if_pos (by decide+kernel)];rfl
theorem LU:((List.range 31).all λn=>jP (Str.ofString (toString ((n:Nat):Int)))&&((G8 (Str.ofString (toString ((n:Nat):Int)))==n)&&(decide (Str.ofString (toString ((n:Nat):Int))∉(["nat","none","zero","(",")"]:List Str))&&(decide (1<=(Str.ofString (toString ((n:Nat):Int))).length)&&(decide ((Str.ofString (toString ((n:Nat):Int))).length<=12)&&decide (bL (Str.ofString (toString ((n:Nat):Int))).cps.toList=[(Str.ofString (toString ((n:Nat):Int))).cps.toList]))))))=true:=by decide+kernel
theorem CT:∀n:Nat,h8 (iy n)=true|0=>by decide+kernel|n+1=>by show((PyData.str "next").canLay0&&(h8 (iy n)&&true))=true;rw[CT n];decide+kernel
theorem XC{scope:List Str}{n:Nat}(hn:n<31):GF scope false (iy n) [Str.ofString (toString ((n:Nat):Int))]:=by
 have h:=List.all_eq_true.mp LU n (List.mem_range.mpr hn);simp only[bW,decide_eq_true_eq]at h;obtain⟨h1,h2,h3,h4,h5,h6⟩:=h;have h2:G8 (Str.ofString (toString ((n:Nat):Int)))=n:=by simpa using h2
 generalize Str.ofString (toString ((n:Nat):Int))=z at h1 h2 h3 h4 h5 h6⊢;simp only[List.mem_cons,kh,or_false,not_or]at h3;refine iJ ?_ (Io n) (CT n) ⟨h4,h5⟩ h6 h3.2.2.2.1 h3.2.2.2.2 λnames st e=>?_;·cases n with|zero=>show dB "zero"=false;decide+kernel|succ n=>show dB "next"=false;decide+kernel
 ·unfold ck;rw[if_neg (by simp only[List.mem_cons,kh,or_false,not_or];exact⟨h3.1,h3.2.1,h3.2.2.1⟩),if_pos h1,h2]
theorem Mx(z:Str){b a s:List Str}(h:b++a=s):jm z b a=jm z s []:=by unfold jm;rw[h,eY]
theorem Zi{scope:List Str}{z:Str}(b:isNm z=true)(hl:scope.length<=50):GF scope false (jm z scope []) [z]:=by
 obtain⟨n,c,_,_⟩:=g0 b;have h1:1<=z.length:=by rw[str_len];cases e:z.cps.toList with|nil=>exact absurd e n|cons a l=>simp
 have g:Sml (jm z scope []) 1 1:=Dr (by simp;exact hl);obtain⟨_,d,f⟩:=Qg (names:=[]) (st:=[]) b;refine iJ ?_ g.wf (JH b scope) ⟨h1,c⟩ (Af b) d f λnames st e=>?_
 ·unfold jm;split;·show dB "var"=false;decide+kernel
  ·show dB "name"=false;decide+kernel
 ·rw[(Qg (names:=names) (st:=st) b).1,SD,Mx z e]
def qQ(K:PySem.W.Frag):Sp:=λvs H Q _=>∃(c:Int)(want:Str)(sc p:Addr)(scope:List Str)(i left:Int),vs=[.int c, .str want, .ref sc, .ref p]/\H sc=some (.lst (scope.map V.str))/\(∀y∈scope,isNm y=true)/\scope.length<=50/\H p=some (.lst [.int i, .int left])/\0<=left/\left<=200/\(want="k"\/want="t")/\∀(r:Addr)(H':Hp),KI p scope (decide (want="k")) i left H r H'->Q (.ref r) H'
theorem dw:aJ ["_law_cell","_law_want","_law_scope","_law_state","_law_many","_law_thing","_law_k","_law_word"] ["_law_cell","_law_want","_law_scope","_law_state"] (aq g7):=⟨rfl,rfl,rfl,by decide+kernel,rfl,by decide+kernel,by decide+kernel⟩
theorem Bi(D:Df K mg "_law_leaf" g7 ["_law_cell","_law_want","_law_scope","_law_state"])(M:Mg mg t)(bF:da P w K mg cR "_law_name_by" (2) ["_law_cell"] lR)(zr:da P w K mg cR "_law_named" (1) ["_law_word","_law_scope"] (sJ K)):da P w K mg cR "_law_leaf" (131) ["_law_cell","_law_want","_law_scope","_law_state"] (qQ K):=by
 refine D.ok dw (λvs H Q E h=>?_) (λbase f cH A outer s H vs Q E B h=>?_);·obtain⟨c,want,sc,p,scope,i,left,rfl,_⟩:=h;rfl
 obtain⟨c,want,sc,p,scope,i,left,rfl,hs,Uq,U,k,G,l1,hw,q⟩:=h;have hu:=IU B;have hh:=B.hd (by decide);refine⟨_,(ah (aS (ar aN (pv 1) ai (az _)) (ao (aB (tW (ar aN (ay bu (pv 0) aj) aj (az _)) (bQ (aa (bQ (aa ai af)) (aa (aT (aa ai af)) af))) (bQ (aa (bQ (aa ai af)) (aa (aT (aa ai af)) af)))))) aC) (ah (aS (ar aN (ay bu (pv 0) aj) aj (az _)) (ah (aE (i:=4) dw.nd rfl (dh rfl) (aM (FL hh) rfl M.WR S9 (aa (ay bu (ay bE (pv 0) aj) aj) (aa (aZ aP (pv 3) aj (λ_ _=>rfl)) af)))) (ah (IC (ay iO (aZ aP (pv 3) aj (λ_ _=>rfl)) (pv 4)) (Jy (pv 3) aj set_list)) (ah (aE (i:=5) dw.nd rfl (dh rfl) (bQ (aa ai af))) (ah (h_ PassesOwn.never rfl (eN rfl M.fE (aa (pv 4) af)) (cL (i:=6) dw.nd rfl (dh rfl)) (ao (aE (i:=5) dw.nd rfl (dh rfl) (bQ (aa ai (aa (pv 5) af)))))) (ao (aB (bQ (aa (pv 5) (aa (aT (aa (cQ wa rfl M.Kn BP (aa (pv 4) af)) af)) af))))))))) aC) (ah (aS (ar aN (ay bu (pv 0) aj) aj (az _)) (ao (aB (bQ (aa (bQ (aa ai af)) (aa (aT (aa ai af)) af))))) aC) (ah (aE (i:=7) dw.nd rfl (dh rfl) (bA bF B.m rfl bh (aa (ay bE (pv 0) aj) af))) (ah (aS (L2.PW.pt (iH (ar Ei (ay bu (pv 0) aj) aj (az _)) (gf (ar (Br hu) (pv 2) (aT af) (az _))))) (ao (aE (i:=7) dw.nd rfl (dh rfl) (aZ aP (pv 2) (ay bu (ay bE (pv 0) aj) (aM aL rfl M.dj cu (aa (pv 2) af))) (λ_ _=>rfl)))) aC) (ao (aB (bQ (aa (bA zr B.m rfl bh (aa (pv 7) (aa (pv 2) af))) (aa (aT (aa (pv 7) af)) af)))))))))),?_⟩;try dsimp only[j6,eC]
 refine RE ?_;intro _ _ _ _ _ _;refine⟨_,rfl,rfl,_,rfl,?_⟩;rw[sd];have d1:depth Mc<=31:=by decide+kernel
 have d2:depth (.tup [.str "none"])<=31:=by decide+kernel
 have d3:depth HX<=31:=by decide+kernel
 have k1:bK Mc=1:=by decide+kernel
 have k2:bK (.tup [.str "none"])=1:=by decide+kernel
 have k3:bK HX=1:=by decide+kernel
 rcases hw with rfl|rfl
 ·rw[decide_eq_true rfl];rw[decide_eq_true rfl]at q;refine bo ⟨_,rfl,_,_,rfl,rfl,(by show(0:Int)<2;decide),rfl,_,rfl,bz (λ_=>?_) (λ_=>?_)⟩;·refine⟨(dF rfl),λr d=>⟨(dF rfl),λl a=>⟨(dF rfl),λg e=>?_⟩⟩⟩;have b:=ak d (.tup [V.str "nat"]);exact q g _ (sV b.x (b _ _ k) G (Int.le_refl _) X9 d1 (by rw[k1];omega) (sR ag (by decide+kernel) rfl) a e)
  ·refine⟨(dF rfl),λr d=>⟨(dF rfl),λl a=>⟨(dF rfl),λg e=>?_⟩⟩⟩;have b:=ak d (.tup [V.str "none"]);exact q g _ (sV b.x (b _ _ k) G (Int.le_refl _) SX d2 (by rw[k2];omega) (sR ag (by decide+kernel) rfl) a e)
 have Y:¬(Str.ofString "t"=Str.ofString "k"):=by decide+kernel
 rw[decide_eq_false Y];rw[decide_eq_false Y]at q;refine cB ⟨_,rfl,_,_,rfl,rfl,(by show(0:Int)<5;decide),rfl,_,rfl,bz (λ_=>?_) (λ_=>?_)⟩
 ·have x0:=Int.emod_nonneg (c/5) (show(31:Int)≠0 by decide);have x1:=Int.emod_lt_of_pos (c/5) (show(0:Int)<31 by decide);refine⟨_,rfl,_,_,rfl,rfl,⟨by decide,by decide⟩,_,_,rfl,rfl,(by show(0:Int)<31;decide),_,rfl,p,_,_,_,rfl,rfl,bj.of k,aG (j:=1) rfl,_,_,rfl,?_⟩;obtain⟨m,hm,hm1,hm2⟩:∃m:Nat,(if left<c/5%31 then left else c/5%31)=(m:Int)/\m<31/\(m:Int)<=left:=by
   by_cases h:left<c/5%31;·exact⟨left.toNat,by rw[if_pos h];omega,by omega,by omega⟩
   ·exact⟨(c/5%31).toNat,by rw[if_neg h];omega,by omega,by omega⟩
  show il 4 (V.int (if left<c/5%31 then left else c/5%31)) _ _ _;rw[hm];refine⟨_,rfl,p,_,_,_,rfl,rfl,bj.of k,aG (j:=1) rfl,_,rfl,_,_,rfl,rfl,_,rfl,p,_,_,1,rfl,rfl,k,rfl,?_⟩;have sx:bM p H (upd H p (.lst [V.int i, .int (left-(m:Int))])):=bM.upd _;have d:(upd H p (.lst [V.int i, .int (left-(m:Int))])) p=some (.lst [V.int i, .int (left-(m:Int))]):=ag;show(aQ _ _) _ _ (upd H p (.lst [V.int i, .int (left-(m:Int))]));generalize upd H p (.lst [V.int i, .int (left-(m:Int))])=o at sx d⊢;refine⟨(dF rfl),λr ME=>?_⟩;have b:=ak ME (.tup [V.str "zero"]);have Z:Rep (upd o r (.tup [V.str "zero"])) (iy 0) (.ref r):=sR ag (by decide+kernel) rfl;generalize upd o r (.tup [V.str "zero"])=y at b Z⊢;refine⟨_,rfl,(m:Int),rfl,(by show-(2^62)<=((m:Nat):Int);omega),(by show((m:Nat):Int)<2^62;omega),?_⟩;rw[show(((m:Nat):Int)).toNat=m by omega];let Cq:Nat->L2.St->Hp->Prop:=(λj N H'=>∃(u:V)(J:Option V),N=[some (.int c),some (.str "t"),some (.ref sc),some (.ref p),some (.int (m:Nat)),some u,J,none]/\Rep H' (iy j) u/\aD o H');refine jG m Cq ?_ ?_ ?_;·exact⟨_,none,rfl,Z,b⟩
  ·rintro j N O hj⟨u,J,rfl,L,x⟩;refine⟨hj,?_⟩;rintro x' H4⟨rfl,rfl⟩;refine⟨_,rfl,(dF rfl),λl a=>?_⟩;have n:=ak a (.tup [V.str "next",u]);exact⟨.ref l,_,rfl,sR ag (by decide+kernel) ⟨_,_,rfl,L.mono n,rfl⟩,x.trans n⟩
  ·rintro N O⟨u,J,rfl,L,x⟩;refine⟨bB _,?_⟩;have lg:(((m:Nat):Int)).natAbs.log2<1920:=by
    by_cases R:(((m:Nat):Int)).natAbs=0;·rw[R];decide
    ·have :=(Nat.log2_lt R).mpr (show(((m:Nat):Int)).natAbs<2^10 by omega);omega
   refine⟨_,rfl,_,rfl,_,rfl,lg,(dF rfl),λl a=>⟨(dF rfl),λg e=>?_⟩⟩;exact q g _ (sV (sx.trans x.x) (x _ _ d) (by omega) (by omega) (XC hm1) (by rw[wz];omega) (by rw[wx];omega) L a e)
 refine⟨_,rfl,_,_,rfl,rfl,(by show(0:Int)<5;decide),rfl,_,rfl,bz (λ_=>?_) (λ_=>?_)⟩;·refine⟨(dF rfl),λr d=>⟨(dF rfl),λl a=>⟨(dF rfl),λg e=>?_⟩⟩⟩;have b:=ak d (.tup [V.str "zero"]);exact q g _ (sV b.x (b _ _ k) G (Int.le_refl _) R1 d3 (by rw[k3];omega) (sR ag (by decide+kernel) rfl) a e)
 ·refine⟨_,rfl,_,_,rfl,rfl,⟨by decide,by decide⟩,_,rfl,λz0 o s1 X=>?_⟩;have C:=s1 _ _ hs;have d:=s1 _ _ k;have fin:∀(z:Str)(y:Hp),aD o y->isNm z=true->FR (Va (cP (mV (sJ K) [] E0 (cP (bX 7) (cP (bX 2) iB))) (cP (BQ (cP (bX 7) iB)) iB))) {nx:=λ_ H'=>Q V.bU H',rt:=Q} [some (.int c),some (.str "t"),some (.ref sc),some (.ref p),none,none,none,some (.str z)] y:=λz y s2 W=>by have RY:=(g0 W).2.1;refine⟨_,rfl,_,rfl,z,sc,scope,rfl,s2 _ _ C,(by omega),(by omega),λv O x r3=>⟨_,rfl,(dF rfl),λl a=>⟨(dF rfl),λg e=>?_⟩⟩⟩;have sm:Sml (jm z scope []) 1 1:=Dr (by simp;exact U);have e1:=sm.dp;have e2:=sm.kn;have NL:=s1.trans (s2.trans x);exact q g _ (sV NL.x (NL _ _ k) G (Int.le_refl _) (Zi W U) (by omega) (by omega) r3 a e)
  refine⟨_,rfl,_,_,rfl,rfl,(by show(0:Int)<5;decide),_,_,rfl,rfl,_,rfl,bz (λ_=>?_) (λ_=>?_)⟩
  ·refine⟨_,rfl,(dF rfl),λl a=>?_⟩;have n:=ak a (.lst []);refine⟨sc,l,_,_,rfl,rfl,bj.of (n _ _ C),bj.of ag,gL _,rfl,_,rfl,?_⟩;cases I:scope with
    |nil=>exact cB (fin z0 _ n X)
    |cons y0 l0'=>
     rw[<-I];have LI:0<scope.length:=by rw[I];simp
     have T:(scope.map V.str).length=scope.length:=bT _;rw[show(!sA (scope.map V.str) [])=true by rw[I];rfl];have f0:=Int.emod_nonneg (c/5) (show((scope.length:Nat):Int)≠0 by omega);have f1:=Int.emod_lt_of_pos (c/5) (show(0:Int)<((scope.length:Nat):Int)by omega);obtain⟨F,Ud⟩:∃F:Nat,c/5%((scope.length:Nat):Int)=(F:Int):=⟨(c/5%((scope.length:Nat):Int)).toNat,by omega⟩;have S:F<scope.length:=by omega
     refine bo ⟨_,rfl,_,rfl,_,_,rfl,rfl,⟨by decide,by decide⟩,_,rfl,sc,_,rfl, .inl (bj.of (n _ _ C)),_,_,rfl,rfl,(by show(0:Int)<(((scope.map V.str).length:Nat):Int);rw[T];omega),sc,_,_, .str scope[F],rfl,rfl,bj.of (n _ _ C),(by rw[T,Ud];exact aG (by rw[fU,cN S];rfl)),?_⟩;exact fin _ _ n (Uq _ (List.getElem_mem S))
  ·exact fin z0 o (aD.refl _) X
structure V9(p:Addr)(scope:List Str)(k:Bool)(n i:Nat)(left:Int)(H:Hp)(r:Addr)(H':Hp):Prop where
 ex:∃(q:Addr)(u:V)(d:D)(ws:List Str)(i' f:Nat)(eW:Int),bM p H H'/\H' p=some (.lst [.int (i':Nat), .int eW])/\0<=eW/\eW<=left/\i+1<=i'/\i'<=i+1+4*f/\i+f<=i'/\(f=0\/i+f<=63)/\GF scope k d ws/\ws.length+i<=i'+3*f/\depth d<=31+n/\((bK d:Nat):Int)+(i:Int)<=(i':Int)+(left-eW)/\H' r=some (.tup [u, .ref q])/\H' q=some (.lst (ws.map V.str))/\Rep H' d u/\H q=none
def tT(K:PySem.W.Frag)(n:Nat):Sp:=λvs H Q _=>∃(a p sc:Addr)(ns:List Int)(want:Str)(m i:Nat)(left:Int)(scope:List Str),vs=[.ref a, .ref p, .str want, .int (m:Nat), .ref sc]/\m<n/\(∀H',bM p H H'->bj K H' a (ns.map V.int))/\H p=some (.lst [.int (i:Nat), .int left])/\i<=300/\0<=left/\left<=200/\H sc=some (.lst (scope.map V.str))/\(∀y∈scope,isNm y=true)/\scope.length+m<=50/\(want="k"\/want="t")/\∀(r:Addr)(H':Hp),V9 p scope (decide (want="k")) m i left H r H'->Q (.ref r) H'
theorem Jg{H:Hp}{p sc:Addr}{scope:List Str}{i left:Int}(h1:H p=some (.lst [.int i, .int left]))(h2:H sc=some (.lst (scope.map V.str))):sc≠p:=λe=>by rw[e,h1]at h2;have :=HO.lst.inj (Option.some.inj h2);cases scope with|nil=>cases this|cons y l=>rw[gQ]at this;cases(List.cons.inj this).1
theorem QB:(AQ.all λx=>(decide (bq x=(iw x).cps.toList.map (λc=>if c=107 then Str.ofString "kind"else"term"))&&(iw x).cps.toList.all (λc=>decide (c=107\/c=116)))&&((if lQ x=-1 then !jk x BO else jk x BO&&decide (gw x= .int (lQ x)))&&(decide (0<=lQ x\/lQ x=-1)&&decide ((iw x).length<=4))))=true:=by decide+kernel
noncomputable def lq:List Str:=["fun","app","next","rec","like","carry","never","pair","first","second"]
noncomputable def wL:List Str:=["all","some","same"]
theorem EZ:∀y∈lq,y∈AQ/\nu y=false:=λy a=>by have :=List.all_eq_true.mp (show(lq.all λy=>decide (y∈AQ)&&!nu y)=true by decide+kernel) y a;simpa using this
theorem De:∀y∈wL,y∈AQ/\nu y=true:=λy a=>by have :=List.all_eq_true.mp (show(wL.all λy=>decide (y∈AQ)&&nu y)=true by decide+kernel) y a;simpa using this
theorem mQ(d:D):∀l:List D,aO (l++[d])=max (aO l) (depth d)|[]=>by simp[aO]|a::l=>by show max (depth a) (aO (l++[d]))=max (max (depth a) (aO l)) (depth d);rw[mQ d l,Nat.max_assoc]
theorem mY(d:D):∀l:List D,a_ (l++[d])=a_ l+bK d|[]=>by simp[a_]|a::l=>by show bK a+a_ (l++[d])=bK a+a_ l+bK d;rw[mY d l,Nat.add_assoc]
theorem ba:aJ ["_law_script","_law_state","_law_want","_law_deep","_law_scope","_law_cell","_law_forms","_law_word","_law_told","_law_under","_law_binder","_law_things","_law_k","_law_above","_law_part"] ["_law_script","_law_state","_law_want","_law_deep","_law_scope"] (aq e9):=⟨rfl,rfl,rfl,by decide+kernel,rfl,by decide+kernel,by decide+kernel⟩
theorem xB{n:Nat}(D:Df K mg "_law_grown" e9 ["_law_script","_law_state","_law_want","_law_deep","_law_scope"])(M:Mg mg t)(aY:da P w K mg cR "_law_cell_at" (1) ["_law_script","_law_k"] (uC K))(ia:da P w K mg cR "_law_leaf" (131) ["_law_cell","_law_want","_law_scope","_law_state"] (qQ K))(fh:da P w K mg cR "_law_bound" (1) ["_law_word"] J9)(eZ:da P w K mg cR "_law_shape" (1) ["_law_word"] D4)(bF:da P w K mg cR "_law_name_by" (2) ["_law_cell"] lR)(iG:da P w K mg cR "_law_grown" (n+132) ["_law_script","_law_state","_law_want","_law_deep","_law_scope"] (tT K n)):da P w K mg cR "_law_grown" (n+133) ["_law_script","_law_state","_law_want","_law_deep","_law_scope"] (tT K (n+1)):=by
 refine D.ok ba (λvs H Q E h=>?_) (λbase f cH A outer s H vs Q E v h=>?_);·obtain⟨a,p,sc,ns,want,m,i,left,scope,rfl,_⟩:=h;rfl
 obtain⟨a,p,sc,ns,want,m,i,left,scope,rfl,hmn,hS,hp,hi,l0,l1,R5,Uq,Gw,hw,q⟩:=h;refine⟨_,(ah (aE (i:=5) ba.nd rfl (dh rfl) (bA aY v.m rfl bh (aa (pv 0) (aa (aZ aP (pv 1) aj (λ_ _=>rfl)) af)))) (ah (IC (ay dz (aZ aP (pv 1) aj (λ_ _=>rfl)) aj) (Jy (pv 1) aj set_list)) (ah (aS (L2.PW.pt (dN (ar aN (pv 3) aj (az _)) (dN (ar aN (ay bu (pv 5) aj) aj (az _)) (dH (ar mw (aZ aP (pv 1) aj (λ_ _=>rfl)) aj (az _)))))) (ao (aB (bA ia v.m rfl bh (aa (ay bE (pv 5) aj) (aa (pv 2) (aa (pv 4) (aa (pv 1) af))))))) aC) (ah (aE (i:=6) ba.nd rfl (dh rfl) (aT (aa ai (aa ai (aa ai (aa ai (aa ai (aa ai (aa ai (aa ai (aa ai (aa ai af)))))))))))) (ah (aS (ar aN (pv 2) ai (az _)) (ao (aE (i:=6) ba.nd rfl (dh rfl) (aT (aa ai (aa ai (aa ai af)))))) aC) (ah (aE (i:=7) ba.nd rfl (dh rfl) (aZ aP (pv 6) (ay bu (ay bE (pv 5) aj) (aM aL rfl M.dj cu (aa (pv 6) af))) (λ_ _=>rfl))) (ah (aE (i:=8) ba.nd rfl (dh rfl) (aT (aa ai (aa (pv 7) af)))) (ah (aE (i:=9) ba.nd rfl (dh rfl) (pv 4)) (ah (aS (ar VZ (bA fh v.m rfl bh (aa (pv 7) af)) aj (az _)) (ah (aE (i:=10) ba.nd rfl (dh rfl) (bA bF v.m rfl bh (aa (ay bE (pv 5) aj) af))) (ah (gY (mB PySem.F.plainAttrs_list PySem.F.slot_list_append PySem.F.type_list_append fL (pv 8) (aa (pv 10) af))) (ao (aE (i:=9) ba.nd rfl (dh rfl) (ay cD (aT (aa (pv 10) af)) (pv 4)))))) aC) (ah (aE (i:=11) ba.nd rfl (dh rfl) (aT af)) (ah (h_ PassesOwn.never rfl (eN rfl M.fE (aa (aM fI rfl M.dj cu (aa (bA eZ v.m rfl bh (aa (pv 7) af)) af)) af)) (cL (i:=12) ba.nd rfl (dh rfl)) (ah (aE (i:=13) ba.nd rfl (dh rfl) (pv 4)) (ah (aS (ar aN (pv 12) (bA fh v.m rfl bh (aa (pv 7) af)) (az _)) (ao (aE (i:=13) ba.nd rfl (dh rfl) (pv 9))) aC) (ah (aE (i:=14) ba.nd rfl (dh rfl) (bA iG v.m rfl bh (aa (pv 0) (aa (pv 1) (aa (aZ lW (bA eZ v.m rfl bh (aa (pv 7) af)) (pv 12) (λ_ _=>rfl)) (aa (ay iO (pv 3) aj) (aa (pv 13) af))))))) (ah (gY (mB PySem.F.plainAttrs_list PySem.F.slot_list_append PySem.F.type_list_append fL (pv 11) (aa (aZ gV (pv 14) aj (λ_ _=>rfl)) af))) (ao (aE (i:=8) ba.nd rfl (dh rfl) (ay cD (pv 8) (aZ gV (pv 14) aj (λ_ _=>rfl)))))))))) (ao (aB (bQ (aa (ay DL (bQ (aa (pv 7) af)) (cQ jy rfl M.yy sv (aa (pv 11) af))) (aa (ay cD (pv 8) (aT (aa ai af))) af)))))))))))))))),?_⟩;try dsimp only[j6,eC]
 refine Yh ?_;intro _ _ _ _ _ _ _ _ _ _ _ _;rename_i Z v12 v11 v10 v9 v8 v7 v6 v5 v4 v3 v2;refine⟨_,rfl,_,rfl,p,_,_,_,rfl,rfl,bj.of hp,aG (j:=0) rfl,a,ns,i,rfl,hS H (λb o _ h=>h),?_⟩;generalize b8 ns i=c;refine⟨_,rfl,p,_,_,_,rfl,rfl,bj.of hp,aG (j:=0) rfl,_,_,rfl,rfl,_,rfl,p,_,_,0,rfl,rfl,hp,rfl,?_⟩;show v3 Z [some (.ref a),some (.ref p),some (.str want),some (.int (m:Nat)),some (.ref sc),some (.int c),none,none,none,none,none,none,none,none,none] (upd H p (.lst [V.int ((i+1:Nat):Int), .int left]));have VT:bM p H (upd H p (.lst [V.int ((i+1:Nat):Int), .int left])):=bM.upd _;have O:(upd H p (.lst [V.int ((i+1:Nat):Int), .int left])) p=some (.lst [V.int ((i+1:Nat):Int), .int left]):=ag;generalize upd H p (.lst [V.int ((i+1:Nat):Int), .int left])=G at VT O⊢;have nsc:=Jg hp R5;have TV:=VT _ _ nsc R5;have lfq:∀(r:Addr)(H':Hp),KI p scope (decide (want="k")) ((i+1:Nat):Int) left G r H'->Q (.ref r) H':=λr H' o=>by obtain⟨q0,u,d,ws,eW,T,o2,o3,W,o5,o6,o7,o8,o9,o10,o11,o12⟩:=o.ex;exact q r H' ⟨q0,u,d,ws,i+1,0,eW,VT.trans T,o2,o3,W,by omega,by omega,by omega, .inl rfl,o5,by omega,by omega,by omega,o9,o10,o11,B5 VT O o12⟩
 have leaf:FR (mV (qQ K) [] E0 (cP (fJ (rI U9 λi j=>V.int (i/j)) (bX 5) (tC (V.int 4))) (cP (bX 2) (cP (bX 4) (cP (bX 1) iB))))) {nx:=v4 Z,rt:=Z.rt} [some (.ref a),some (.ref p),some (.str want),some (.int (m:Nat)),some (.ref sc),some (.int c),none,none,none,none,none,none,none,none,none] G:=⟨_,rfl,_,_,rfl,rfl,⟨by decide,by decide⟩,_,rfl,_,rfl,_,rfl,c/4,want,sc,p,scope,_,left,rfl,TV,Uq,by omega,O,l0,l1,hw,lfq⟩;refine⟨_,rfl,rfl,_,rfl,bz (λ_=>bo leaf) (λc1=>?_)⟩;refine⟨_,rfl,_,_,rfl,rfl,(by show(0:Int)<4;decide),rfl,_,rfl,bz (λ_=>bo leaf) (λc2=>?_)⟩;refine⟨_,rfl,p,_,_,_,rfl,rfl,bj.of O,aG (j:=0) rfl,_,_,rfl,rfl,_,rfl,bz (λ_=>leaf) (λc3=>?_)⟩;have hm0:m≠0:=λe=>c1 (decide_eq_true (by rw[e];rfl));have abb:i+1<=63:=by have c3:¬(63:Int)<((i+1:Nat):Int):=of_decide_eq_false (Bool.eq_false_iff.mpr c3);omega
 clear leaf lfq c1 c2 c3;have rest:∀(pf:Addr)(rg:List Str)(L:Hp),aD G L->L pf=some (.lst (rg.map V.str))->0<rg.length->rg.length<=100->(∀y∈rg,y∈AQ/\nu y=decide (want="k"))->v6 Z [some (.ref a),some (.ref p),some (.str want),some (.int (m:Nat)),some (.ref sc),some (.int c),some (.ref pf),none,none,none,none,none,none,none,none] L:=by
  intro pf rg L s2 G1 Zt hf1 hfy;have f0:=Int.emod_nonneg (c/4) (show((rg.length:Nat):Int)≠0 by omega);have f1:=Int.emod_lt_of_pos (c/4) (show(0:Int)<((rg.length:Nat):Int)by omega);obtain⟨S,Ud⟩:∃S:Nat,c/4%((rg.length:Nat):Int)=(S:Int):=⟨(c/4%((rg.length:Nat):Int)).toNat,by omega⟩;have zi:S<rg.length:=by omega
  have Kq:(rg.map V.str).length=rg.length:=bT _;refine⟨_,rfl,_,rfl,_,_,rfl,rfl,⟨by decide,by decide⟩,_,rfl,pf,_,rfl, .inl (bj.of G1),_,_,rfl,rfl,(by show(0:Int)<(((rg.map V.str).length:Nat):Int);rw[Kq];omega),pf,_,_, .str rg[S],rfl,rfl,bj.of G1,(by rw[Kq,Ud];exact aG (by rw[fU,cN zi];rfl)),?_⟩;obtain⟨hx,hxk⟩:=hfy rg[S] (List.getElem_mem zi);generalize rg[S]=x at hx hxk⊢;clear f0 f1 Ud zi Kq hfy Zt hf1;have hfx:=List.all_eq_true.mp QB x hx;simp only[bW]at hfx;obtain⟨⟨g1,g2⟩,N,g4,g5⟩:=hfx;have g1:=of_decide_eq_true g1;have g4:=of_decide_eq_true g4;have g5:=of_decide_eq_true g5;have hfo:=List.all_eq_true.mp Ii x hx;simp only[bW]at hfo;obtain⟨T,o2,o3,W,_⟩:=hfo;have T:=of_decide_eq_true T;have o23:1<=x.length/\x.length<=12:=⟨of_decide_eq_true o3,of_decide_eq_true o2⟩;have W:=of_decide_eq_true W;refine⟨_,rfl,(dF rfl),λpt hpt=>?_⟩;have t3:=ak hpt (.lst [V.str "(", .str x]);have h3:(upd L pt (.lst [V.str "(", .str x])) pt=some (.lst ((yh ["("]++[x]).map V.str)):=ag;have ZS:G pt=none:=s2.free hpt;generalize upd L pt (.lst [V.str "(", .str x])=H3 at t3 h3⊢;have s3:=s2.trans t3;refine⟨_,rfl,?_⟩;have Hz:∀(bn:Option Str)(un:Addr)(WY:List Str)(bv:Option V)(k:Hp),bM p G k->k p=some (.lst [V.int ((i+1:Nat):Int), .int left])->k pt=some (.lst (WY.map V.str))->k un=some (.lst ((match bn with|some n=>n::scope|none=>scope).map V.str))->Dj scope x bn [] WY->WY.length<=3->(bn=none->lQ x=-1)->(∀n,bn=some n->isNm n=true/\gw x= .int (lQ x))->v10 Z [some (.ref a),some (.ref p),some (.str want),some (.int (m:Nat)),some (.ref sc),some (.int c),some (.ref pf),some (.str x),some (.ref pt),some (.ref un),bv,none,none,none,none] k:=by
   intro bn un WY bv k sx4 hp4 VN Rg P0 hw0 Y1 hb2;have hul:(match bn with|some n=>n::scope|none=>scope).length+(m-1)<=50/\∀y∈(match bn with|some n=>n::scope|none=>scope),isNm y=true:=by cases bn with|none=>exact⟨by show scope.length+(m-1)<=50;omega,Uq⟩|some n=>exact⟨by show(n::scope).length+(m-1)<=50;rw[bD];omega,λy I=>(List.mem_cons.mp I).elim (λe=>e▸(hb2 n rfl).1) (Uq y)⟩
   have Yy:∀j:Nat,NT scope x bn j=if((j:Nat):Int)=lQ x then(match bn with|some n=>n::scope|none=>scope)else scope:=λj=>by
    cases bn with
     |none=>rw[if_neg (by rw[Y1 rfl];omega)];rfl
     |some n=>
      show(if gw x= .int (j:Nat)then n::scope else scope)=_;rw[(hb2 n rfl).2];by_cases e:((j:Nat):Int)=lQ x;·rw[if_pos (by rw[e]),if_pos e]
      ·rw[if_neg (λh=>e (by injection h with h;exact h.symm)),if_neg e]
   generalize hU:(match bn with|some n=>n::scope|none=>scope)=U at Rg hul Yy;clear hU;refine⟨(dF rfl),λpg Ve=>?_⟩;have t5:=ak Ve (.lst []);have h5:(upd k pg (.lst [])) pg=some (.lst []):=ag;have Ri:pg≠p:=(aI hp4 Ve).symm;have nun:un≠pg:=aI Rg Ve;have npt:pt≠pg:=aI VN Ve;have Xl:=VT.trans sx4;have aaZ:H pg=none:=by cases e:H pg with|none=>rfl|some o=>have :=Xl _ _ Ri e;rw[Ve]at this;cases this
   generalize upd k pg (.lst [])=H5 at t5 h5⊢;have LJ:(bq x).length=(iw x).length:=by rw[g1,bT];rfl
   refine⟨_,rfl,x,rfl,_,rfl,big (by omega),(((iw x).length:Nat):Int),rfl,(by show-(2^62)<=(((iw x).length:Nat):Int);omega),(by show(((iw x).length:Nat):Int)<2^62;omega),?_⟩;rw[show((((iw x).length:Nat):Int)).toNat=(iw x).length by omega];let Cq:Nat->L2.St->Hp->Prop:=(λj aX H'=>∃(C:Addr)(ps:List KM.D)(us:List V)(ws:List Str)(g l:Nat)(B:Int)(kv av pv:Option V),aX=[some (.ref a),some (.ref p),some (.str want),some (.int (m:Nat)),some (.ref sc),some (.int c),some (.ref pf),some (.str x),some (.ref C),some (.ref un),bv,some (.ref pg),kv,av,pv]/\H' C=some (.lst (ws.map V.str))/\C≠pg/\H' pg=some (.lst us)/\bS H' ps us/\ps.length=j/\Dj scope x bn ps ws/\H' p=some (.lst [.int (g:Nat), .int B])/\0<=B/\B<=left/\H' un=some (.lst (U.map V.str))/\bM p H H'/\i+1<=g/\g<=i+1+j+4*l/\i+1+l<=g/\i+1+l<=63/\ws.length+(i+1)<=3+g+3*l/\aO ps<=31+(m-1)/\((a_ ps:Nat):Int)+((i+1:Nat):Int)<=(g:Int)+(left-B));refine jG (iw x).length Cq ?_ ?_ ?_;·refine⟨pt,[],[],WY,i+1,0,left,none,none,none,rfl,t5 _ _ VN,npt,h5,rfl,rfl,P0,t5 _ _ hp4,l0,Int.le_refl _,t5 _ _ Rg,Xl.trans t5.x,bB _,by omega,by omega,by omega,by omega,by simp[aO],?_⟩;simp[a_]
   ·rintro j aX LV hj⟨C,ps,us,ws,g,l,B,kv,av,pv,rfl,i1,i2,i3,i4,i5,i6,J,i8,i9,YD,R,i12,i13,i14,i15,i16,i17,i18⟩;refine⟨hj,?_⟩;rintro x' UA⟨rfl,rfl⟩;have e0:(0:Int)+(j:Int)=((j:Nat):Int):=by omega
    rw[e0];have hjd:j<(bq x).length:=by omega
    have hcl:(iw x).cps.toList.length=(iw x).length:=rfl;obtain⟨ch,Bb⟩:∃ch,(iw x).cps.toList[j]?=some ch:=⟨_,cN (by rw[hcl];exact hj)⟩;have EG:(bq x)[j]?=some (if ch=107 then Str.ofString "kind"else"term"):=by rw[g1,fU,Bb];rfl
    have Sy:ch=107\/ch=116:=of_decide_eq_true (List.all_eq_true.mp g2 ch (List.mem_of_getElem? Bb));have Q7:((⟨#[ch]⟩:Str)="k"\/(⟨#[ch]⟩:Str)="t")/\decide ((⟨#[ch]⟩:Str)="k")=decide ((if ch=107 then Str.ofString "kind"else"term")="kind"):=by
     rcases Sy with rfl|rfl;·exact⟨.inl (by decide+kernel),by decide+kernel⟩
     ·exact⟨.inr (by decide+kernel),by decide+kernel⟩
    have hsU:(NT scope x bn j).length+(m-1)<=50/\∀y∈NT scope x bn j,isNm y=true:=by
     rw[Yy];split;·exact hul
     ·exact⟨by omega,Uq⟩
    have Vi:=R _ _ nsc R5;have body:∀(Dn:Ends)(ab:Addr),Dn.nx=Cq (j+1)->UA ab=some (.lst ((NT scope x bn j).map V.str))->aQ (yx (mV (tT K n) [] E0 (cP (bX 0) (cP (bX 1) (cP (fJ Vb (mV D4 [] E0 (cP (bX 7) iB)) (bX 12)) (cP (fJ (GJ λi j=>V.int (i-j)) (bX 3) (tC (V.int 1))) (cP (bX 13) iB)))))) (il 14)) (aQ (N5 (tBM K "list" E6 (bX 11) (cP (fJ (Rm K) (bX 14) (tC (V.int 0))) iB))) (yx (fJ gE (bX 8) (fJ (Rm K) (bX 14) (tC (V.int 1)))) (il 8))) Dn [some (.ref a),some (.ref p),some (.str want),some (.int (m:Nat)),some (.ref sc),some (.int c),some (.ref pf),some (.str x),some (.ref C),some (.ref un),bv,some (.ref pg),some (.int (j:Nat)),some (.ref ab),pv] UA:=by
     intro Dn ab hDn hab;refine⟨_,rfl,_,rfl,_,rfl,x,rfl,_,rfl,iw x,_,_,rfl,rfl,big (by omega),aG Bb,_,rfl,_,_,rfl,rfl,_,rfl,a,p,ab,ns,⟨#[ch]⟩,m-1,g,B,NT scope x bn j,?_,by omega,λH' s=>hS H' (R.trans s),J,by omega,i8,by omega,hab,hsU.2,hsU.1,Q7.1,λr Vw o=>?_⟩;·show[V.ref a,V.ref p,V.str ⟨#[ch]⟩,V.int ((m:Int)-1),V.ref ab]=_;rw[show(m:Int)-1=((m-1:Nat):Int)by omega]
     obtain⟨q0,u,d,iz,i',f',lf,y1,y2,y3,y4,y5,y6,y7,y8,y9,y10,y11,y12,Sx,y14,y15,ZQ⟩:=o.ex;have ntp:∀vs,UA p≠some (.tup vs):=λvs z=>by rw[J]at z;cases z
     have Eh:=y1 _ _ Ri i3;have XD:us.length<=4:=by have :=i4.length;omega
     refine⟨_,rfl, .inl ⟨rfl,_,bj.of Eh⟩,_,rfl,r,_,_,_,rfl,rfl,gG.of Sx,aG (j:=0) rfl,pg,_,_,rfl,rfl,Eh,Nat.lt_of_le_of_lt XD (by decide),?_⟩;have F:bM pg Vw (upd Vw pg (.lst (us++[u]))):=bM.upd _;have ZE:(upd Vw pg (.lst (us++[u]))) pg=some (.lst (us++[u])):=ag;generalize upd Vw pg (.lst (us++[u]))=H13 at F ZE⊢;have ntg:∀vs,Vw pg≠some (.tup vs):=λvs z=>by rw[Eh]at z;cases z
     have nqg:q0≠pg:=λe=>by rw[e,i3]at ZQ;cases ZQ
     have aaG:=Jg J i1;have Zq:=Jg J YD;have UM:=F _ _ i2 (y1 _ _ aaG i1);have aac:=F _ _ nqg y14;have aa2:=F _ _ (λe=>by rw[e,Eh]at Sx;cases Sx) Sx;have Je:=y10;refine⟨_,rfl,_,rfl,r,_,_,_,rfl,rfl,gG.of aa2,aG (j:=1) rfl,C,q0,_,_,rfl,rfl,UM,aac,big (by rw[bT,bT];omega),λpn hpn=>?_⟩;have Y:=ak hpn (.lst (ws.map V.str++iz.map V.str));have h14:(upd H13 pn (.lst (ws.map V.str++iz.map V.str))) pn=some (.lst ((ws++iz).map V.str)):=by rw[List.map_append];exact ag
     have npn:pn≠pg:=(aI ZE hpn).symm;generalize upd H13 pn (.lst (ws.map V.str++iz.map V.str))=H14 at Y h14⊢;show Dn.nx _ H14;rw[hDn];have rps:bS H14 (ps++[d]) (us++[u]):=(((i4.gS y1 ntp).snoc y15).gS F ntg).mono Y;have hG:GF (NT scope x bn ps.length) (decide ((⟨#[ch]⟩:Str)="k")) d iz:=by rw[i5];exact y9
     refine⟨pn,ps++[d],us++[u],ws++iz,i',l+f',lf,_,_,_,rfl,h14,npn,Y _ _ ZE,rps,by rw[cx,i5];rfl,i6.next (by rw[i5];exact EG) Q7.2 hG,Y _ _ (F _ _ Ri.symm y2),y3,by omega,Y _ _ (F _ _ nun (y1 _ _ Zq YD)),λb o hb h=>Y _ _ (F _ _ (aI h aaZ) (y1 _ _ hb (R _ _ hb h))),by omega,by omega,by omega,?_,by rw[cx];omega,?_,?_⟩;·rcases y8 with y8|y8<;>omega
     ·rw[mQ];exact Nat.max_le.mpr ⟨i17,y11⟩
     ·rw[mY];omega
    refine⟨_,rfl,?_⟩;refine⟨_,rfl,_,rfl,x,rfl,rfl,_,rfl,?_⟩;by_cases e:((j:Nat):Int)=lQ x;·rw[show decide (V.int ((j:Nat):Int)=V.int (lQ x))=true by rw[e];simp];exact bo ⟨_,rfl,body _ un rfl (by rw[Yy,if_pos e];exact YD)⟩
    ·rw[show decide (V.int ((j:Nat):Int)=V.int (lQ x))=false from decide_eq_false λh=>e (by injection h)];exact cB (body _ sc rfl (by rw[Yy,if_neg e];exact Vi))
   ·rintro aX LV⟨C,ps,us,ws,g,l,B,kv,av,pv,rfl,i1,i2,i3,i4,i5,i6,J,i8,i9,YD,R,i12,i13,i14,i15,i16,i17,i18⟩;refine⟨bB _,?_⟩;have XD:us.length<=4:=by have :=i4.length;omega
    refine⟨_,rfl,(dF rfl),λq1 J5=>?_⟩;have u1:=ak J5 (.tup [V.str x]);have X1:(upd LV q1 (.tup [V.str x])) q1=some (.tup [V.str x]):=ag;generalize upd LV q1 (.tup [V.str x])=K1 at u1 X1⊢;refine⟨_,rfl,pg,_,rfl, .inl ⟨bj.of (u1 _ _ i3),λq2 Sv=>?_⟩⟩;have u2:=ak Sv (.tup us);refine⟨q1,q2,[.str x],us,rfl,rfl,u2 _ _ X1,ag,big (by rw[List.length_singleton];omega),λq3 K3 u3 hq3=>?_⟩;have u13:=u1.trans (u2.trans u3);refine⟨_,rfl,(dF rfl),λq4 YB=>?_⟩;have u4:=ak YB (.lst [V.str ")"]);have WX:(upd K3 q4 (.lst [V.str ")"])) q4=some (.lst [V.str ")"]):=ag;generalize upd K3 q4 (.lst [V.str ")"])=K4 at u4 WX⊢;have Zh:=u13.trans u4;refine⟨C,q4,_,_,rfl,rfl,Zh _ _ i1,WX,big (by rw[bT,List.length_singleton];omega),λX hq5=>?_⟩;have u5:=ak hq5 (.lst (ws.map V.str++[V.str ")"]));have WA:(upd K4 X (.lst (ws.map V.str++[V.str ")"]))) X=some (.lst ((ws++yh [")"]).map V.str)):=by rw[List.map_append];exact ag
    have aaH:K4 X=none:=hq5;generalize upd K4 X (.lst (ws.map V.str++[V.str ")"]))=K5 at u5 WA⊢;refine⟨(dF rfl),λq6 XQ=>?_⟩;have u6:=ak XQ (.tup [V.ref q3, .ref X]);have u16:=Zh.trans (u5.trans u6);have V8:bM p H K4:=R.trans Zh.x;have hGr:=Dj.close hx i6 (by omega);rw[hxk]at hGr;have rd3:Rep K3 (.tup (.str x::ps)) (.ref q3):=⟨q3,_,rfl,hq3,_,_,rfl,⟨rfl,by omega⟩,i4.mono u13⟩;refine q q6 _ ⟨X, .ref q3, .tup (.str x::ps),ws++yh [")"],g,1+l,B,R.trans u16.x,u16 _ _ J,i8,i9,i12,by omega,by omega, .inr (by omega),hGr,by rw[cx];show ws.length+1+i<=_;omega,?_,?_,ag,u6 _ _ WA,rd3.mono (u4.trans (u5.trans u6)),B5 V8 (Zh _ _ J) aaH⟩;·simp only[depth,aO];omega
    ·simp only[bK,a_];omega
  refine⟨_,rfl,x,rfl,_,_,rfl,rfl,_,rfl,bz (λcb=>?_) (λcb=>?_)⟩
  ·have cb:(0:Int)<=lQ x:=of_decide_eq_true cb;rw[if_neg (by omega)]at N;rw[bW]at N;refine⟨_,rfl,_,_,rfl,rfl,⟨by decide,by decide⟩,_,rfl,λnb H5 s5 hnb=>?_⟩;have h5:=s5 _ _ h3;refine⟨_,rfl, .inl ⟨rfl,_,bj.of h5⟩,_,rfl,pt,_,_,rfl,rfl,h5,big (by simp[yh]),?_⟩;have x6:bM pt H5 (upd H5 pt (.lst ((yh ["("]++[x]).map V.str++[V.str nb]))):=bM.upd _;have h6:(upd H5 pt (.lst ((yh ["("]++[x]).map V.str++[V.str nb]))) pt=some (.lst ((yh ["("]++[x]++[nb]).map V.str)):=by rw[List.map_append (l₂:=[nb])];exact ag
   generalize upd H5 pt (.lst ((yh ["("]++[x]).map V.str++[V.str nb]))=H6 at x6 h6⊢;have s16:aD G H6:=λb o h=>x6 _ _ (aI h ZS) (s5 _ _ (s3 _ _ h));refine⟨_,rfl,(dF rfl),λpl jI=>?_⟩;have t7:=ak jI (.lst [V.str nb]);have h7:(upd H6 pl (.lst [V.str nb])) pl=some (.lst [V.str nb]):=ag;generalize upd H6 pl (.lst [V.str nb])=H7 at t7 h7⊢;refine⟨_,rfl,pl,sc,_,_,rfl,rfl,h7,t7 _ _ (s16 _ _ TV),big (by rw[List.length_singleton,bT];omega),λpu hpu=>?_⟩;have t8:=ak hpu (.lst ([V.str nb]++scope.map V.str));have s18:=s16.trans (t7.trans t8);exact Hz (some nb) pu _ _ _ s18.x (s18 _ _ O) (t8 _ _ (t7 _ _ h6)) ag (Dj.UX T N.1 o23 W hnb) (by simp[yh]) (λe=>nomatch e) λn e=>by cases e;exact⟨hnb,of_decide_eq_true N.2⟩
  ·have cb:¬(0:Int)<=lQ x:=of_decide_eq_false (Bool.eq_false_iff.mpr cb);have Y1:lQ x=-1:=by omega
   rw[if_pos Y1]at N;exact Hz none sc _ _ _ s3.x (s3 _ _ O) h3 (s3 _ _ TV) (Dj.X6 T (by simpa using N) o23 W) (by simp[yh]) (λ_=>Y1) λn e=>nomatch e
 refine⟨(dF rfl),λp2 j4=>?_⟩;have t2:=ak j4 (.lst (lq.map V.str));have h2:(upd G p2 (.lst (lq.map V.str))) p2=some (.lst (lq.map V.str)):=ag;refine⟨_,rfl,rfl,_,rfl,?_⟩;rw[sd];rcases hw with rfl|rfl;·rw[decide_eq_true rfl];refine bo ⟨(dF rfl),λp3 mT=>?_⟩;have t3:=ak mT (.lst (wL.map V.str));exact rest p3 wL _ (t2.trans t3) ag (by decide) (by decide) λy I=>⟨(De y I).1,by rw[(De y I).2,decide_eq_true rfl]⟩
 ·have nk:¬(Str.ofString "t"=Str.ofString "k"):=by decide+kernel
  rw[decide_eq_false nk];exact cB (rest p2 lq _ t2 h2 (by decide) (by decide) λy I=>⟨(EZ y I).1,by rw[(EZ y I).2,decide_eq_false nk]⟩)
theorem mX(D:Df K mg "_law_grown" e9 ["_law_script","_law_state","_law_want","_law_deep","_law_scope"])(M:Mg mg t)(b:da P w K mg cR "_law_cell_at" (1) ["_law_script","_law_k"] (uC K))(c:da P w K mg cR "_law_leaf" (131) ["_law_cell","_law_want","_law_scope","_law_state"] (qQ K))(a:da P w K mg cR "_law_bound" (1) ["_law_word"] J9)(e:da P w K mg cR "_law_shape" (1) ["_law_word"] D4)(d:da P w K mg cR "_law_name_by" (2) ["_law_cell"] lR):∀n:Nat,da P w K mg cR "_law_grown" (n+132) ["_law_script","_law_state","_law_want","_law_deep","_law_scope"] (tT K n)|0=>da.never D λ_ _ _ _ h=>by obtain⟨_,_,_,_,_,_,_,_,_,_,h,_⟩:=h;omega|n+1=>xB D M b c a e d (mX D M b c a e d n)
structure Jl(ws:List Str)(k:Nat)(l:List Nat):Prop where
 wd:wS l=ws.take k
 len:l.length<=19*k
 op:∀j,k=j+1->ws[j]?=some (Str.ofString "(")->∃l',l=l'++[40]
noncomputable def uD:List Str:=[" ","\n","  "," \n "]
theorem wo{g:Str}(h:g∈uD)(l y:List Nat):bL (l++g.cps.toList++y)=bL l++bL y/\g.length<=3:=by
 simp only[uD,List.mem_cons,kh,or_false]at h;rcases h with rfl|rfl|rfl|rfl;·refine⟨?_,by decide+kernel⟩;rw[show(Str.ofString " ").cps.toList=[32]by decide+kernel,List.append_assoc];exact lX l y
 ·refine⟨?_,by decide+kernel⟩;rw[show(Str.ofString "\n").cps.toList=[10]by decide+kernel,List.append_assoc];exact B1 l y
 ·refine⟨?_,by decide+kernel⟩;rw[show(Str.ofString "  ").cps.toList=[32,32]by decide+kernel,List.append_assoc];show bL (l++32::([]++32::y))=_;rw[lX,lX,kA,jh]
 ·refine⟨?_,by decide+kernel⟩;rw[show(Str.ofString " \n ").cps.toList=[32,10,32]by decide+kernel,List.append_assoc];show bL (l++32::([]++10::([]++32::y)))=_;rw[lX,B1,lX,kA,jh,jh]
theorem Mv{ws:List Str}{k:Nat}{l:List Nat}{y g:Str}(J:Jl ws k l)(b:ws[k]?=some y)(hw:bL y.cps.toList=[y.cps.toList])(n:y.length<=16)(a:g∈uD\/(g=""/\(k=0\/(∃j,k=j+1/\ws[j]?=some (Str.ofString "("))\/y=")"))):Jl ws (k+1) (l++g.cps.toList++y.cps.toList):=by
 have d:ws.take (k+1)=ws.take k++[y]:=by rw[List.take_add_one,b];rfl
 have p:y.cps.toList.length<=16:=n;have c:(Str.ofString "").cps.toList=[]:=by decide+kernel
 have m:∀j,k+1=j+1->ws[j]?=some (Str.ofString "(")->∃l',l++g.cps.toList++y.cps.toList=l'++[40]:=λj e h=>by
  have :j=k:=by omega
  subst this;rw[b]at h;have :y="(":=Option.some.inj h;subst this;exact⟨l++g.cps.toList,by rw[show(Str.ofString "(").cps.toList=[40]by decide+kernel]⟩
 have main:bL (l++g.cps.toList++y.cps.toList)=bL l++[y.cps.toList]/\g.length<=3:=by
  rcases a with a|⟨rfl,a⟩;·obtain⟨h1,h2⟩:=wo a l y.cps.toList;exact⟨by rw[h1,hw],h2⟩
  ·refine⟨?_,by decide+kernel⟩;rw[c,eY];rcases a with rfl|⟨j,rfl,f⟩|rfl;·have i:l=[]:=List.length_eq_zero_iff.mp (by have :=J.len;omega);rw[i];exact hw
   ·obtain⟨l',rfl⟩:=J.op j rfl f;rw[show l'++[40]++y.cps.toList=l'++40::y.cps.toList by simp,B9 40 (.inl rfl),B9 40 (.inl rfl),hw,kA];simp
   ·rw[show(Str.ofString ")").cps.toList=[41]by decide+kernel,B9 41 (.inr rfl),kA]
 refine⟨?_,?_,m⟩;·rw[d,<-J.wd];unfold wS;rw[main.1,List.map_append,List.map_singleton,Ov]
 ·have :=J.len;have o:g.cps.toList.length<=3:=main.2;rw[cx,cx];omega
noncomputable abbrev YR:R2:=λx y H Q=>∃i j,x=V.str i/\y=V.str j/\i.length+j.length<=sizeLine/\Q (V.str (i++j)) H
def JB:Sp:=λvs H Q _=>∃(a:Addr)(ws:List Str)(c:Int),vs=[.ref a, .int c]/\H a=some (.lst (ws.map V.str))/\(∀y∈ws,(1<=y.length/\y.length<=16)/\bL y.cps.toList=[y.cps.toList])/\ws.length<=2000/\∀(T:Str)(H':Hp),aD H H'->wS T.cps.toList=ws->T.length<=40000->Q (.str T) H'
theorem cK:aJ ["_law_told","_law_cell","_law_line","_law_k","_law_gap"] ["_law_told","_law_cell"] (aq fD):=⟨rfl,rfl,rfl,by decide+kernel,rfl,by decide+kernel,by decide+kernel⟩
theorem yz(D:Df K mg "_law_joined" fD ["_law_told","_law_cell"])(M:Mg mg t):da P w K mg cR "_law_joined" (1) ["_law_told","_law_cell"] JB:=by
 refine D.ok cK (λvs H Q E h=>?_) (λbase f cH A outer s H vs Q E hr h=>?_);·obtain⟨k,ws,c,rfl,_⟩:=h;rfl
 obtain⟨k,ws,c,rfl,ht,Y,Je,q⟩:=h;refine⟨_,(ah (aE (i:=2) cK.nd rfl (dh rfl) ai) (ah (h_ PassesOwn.never rfl (eN rfl M.fE (aa (aM aL rfl M.dj cu (aa (pv 0) af)) af)) (cL (i:=3) cK.nd rfl (dh rfl)) (ah (aE (i:=4) cK.nd rfl (dh rfl) ai) (ah (aS (ar aN (ay bu (pv 1) aj) aj (az _)) (ao (aE (i:=4) cK.nd rfl (dh rfl) (aZ aP (aT (aa ai (aa ai (aa ai (aa ai af))))) (ay bu (ay dz (ay bE (pv 1) aj) (pv 3)) aj) (λ_ _=>rfl)))) aC) (ah (aS (L2.PW.pt (dN (ar aN (pv 3) aj (az _)) (dH (L2.PW.pt (iH (ar aN (ay bu (pv 1) aj) aj (az _)) (gf (L2.PW.pt (dN (ar aN (aZ aP (pv 0) (ay iO (pv 3) aj) (λ_ _=>rfl)) ai (az _)) (dH (ar aN (aZ aP (pv 0) (pv 3) (λ_ _=>rfl)) ai (az _))))))))))) (ao (aE (i:=4) cK.nd rfl (dh rfl) ai)) aC) (ao (aE (i:=2) cK.nd rfl (dh rfl) (ay cw (ay cw (pv 2) (pv 4)) (aZ aP (pv 0) (pv 3) (λ_ _=>rfl))))))))) (ah (aS (ar aN (ay bu (pv 1) aj) aj (az _)) (ao (aB (ay cw (ay cw ai (pv 2)) ai))) aC) (ao (aB (pv 2)))))),?_⟩;try dsimp only[j6,eC]
 refine IG ?_;intro _ _ _ _;have U:(ws.map V.str).length=ws.length:=bT _;refine⟨_,rfl,k,_,rfl, .inl (bj.of ht),((ws.length:Nat):Int),(by rw[U]),(by show-(2^62)<=((ws.length:Nat):Int);omega),(by show((ws.length:Nat):Int)<2^62;omega),?_⟩;rw[show(((ws.length:Nat):Int)).toNat=ws.length by omega];let r:Nat->L2.St->Hp->Prop:=λj C H'=>∃(ln:Str)(z u:Option V),C=[some (.ref k),some (.int c),some (.str ln),z,u]/\Jl ws j ln.cps.toList/\aD H H';refine jG ws.length r ?_ ?_ ?_;·exact⟨"",none,none,rfl,⟨by rw[List.take_zero];decide+kernel,by decide+kernel,λj e=>by omega⟩,aD.refl _⟩
 ·rintro j C p y⟨ln,z,u,rfl,J,s1⟩;refine⟨y,?_⟩;rintro x' N⟨rfl,rfl⟩;have R:(0:Int)+(j:Int)=((j:Nat):Int):=by omega
  rw[R];have L:ws[j]?=some ws[j]:=cN y;have I:(ws.map V.str)[j]?=some (.str ws[j]):=by rw[fU,L];rfl
  obtain⟨⟨Oi,Z⟩,hy3⟩:=Y ws[j] (List.getElem_mem y);have T:ln.length<=19*j:=J.len;have fin:∀(d:Ends)(g:Str)(a:Hp),d.nx=r (j+1)->aD H a->(g∈uD\/(g=""/\(j=0\/(∃i,j=i+1/\ws[i]?=some (Str.ofString "("))\/ws[j]=")")))->yx (fJ YR (fJ YR (bX 2) (bX 4)) (fJ (BJ K) (bX 0) (bX 3))) (il 2) d [some (.ref k),some (.int c),some (.str ln),some (.int (j:Nat)),some (.str g)] a:=by
   intro d g a m b n;have O:=Mv J L hy3 Z n;have hg3:g.length<=3:=by
    rcases n with n|⟨rfl,_⟩;·exact(wo n [] []).2
    ·decide+kernel
   refine⟨_,rfl,_,rfl,_,_,rfl,rfl,(by rw[sizeLine_eq];omega),_,rfl,_,rfl,k,_,_,_,rfl,rfl,bj.of (b _ _ ht),aG I,_,_,rfl,rfl,(by rw[uZ,sizeLine_eq];omega),?_⟩;show d.nx _ _;rw[m];exact⟨_,_,_,rfl,by rw[jC,jC];exact O,b⟩
  have mid:∀(d:Ends)(g:Str)(a:Hp),d.nx=r (j+1)->aD H a->g∈uD->aQ (U3 (tOr (v_ (fJ US (bX 3) (tC (V.int 0)))) (WM (v_ (fJ US (fJ (rI (λx j=>0<j) λi j=>V.int (i%j)) (bX 1) (tC (V.int 3))) (tC (V.int 0)))) (tOr (v_ (fJ US (fJ (BJ K) (bX 0) (fJ (GJ λi j=>V.int (i-j)) (bX 3) (tC (V.int 1)))) (tC (V.str (Str.ofString "("))))) (v_ (fJ US (fJ (BJ K) (bX 0) (bX 3)) (tC (V.str (Str.ofString ")")))))))) (yx (tC (V.str (Str.ofString ""))) (il 4)) PN) (yx (fJ YR (fJ YR (bX 2) (bX 4)) (fJ (BJ K) (bX 0) (bX 3))) (il 2)) d [some (.ref k),some (.int c),some (.str ln),some (.int (j:Nat)),some (.str g)] a:=by
   intro d g a m b n;refine⟨_,rfl,rfl,_,rfl,bz (λl=>bo ?_) (λl=>?_)⟩;·have l:=of_decide_eq_true l;injection l with l;exact fin _ "" a m b (.inr ⟨rfl, .inl (by omega)⟩)
   have l:j≠0:=λe=>l (decide_eq_true (by rw[e];rfl));refine⟨_,rfl,_,_,rfl,rfl,(by show(0:Int)<3;decide),rfl,_,rfl,bz (λ_=>?_) (λ_=>cB (fin _ g a m b (.inl n)))⟩;have F:j-1<ws.length:=by omega
   have X:(ws.map V.str)[j-1]?=some (.str ws[j-1]):=by rw[fU,cN F];rfl
   refine⟨_,rfl,_,rfl,_,_,rfl,rfl,k,_,_, .str ws[j-1],rfl,rfl,bj.of (b _ _ ht),(by rw[show((j:Nat):Int)-1=((j-1:Nat):Int)by omega];exact aG X),rfl,_,rfl,?_⟩;rw[sd];by_cases h1:ws[j-1]="(";·rw[decide_eq_true h1];exact bo (bo (fin _ "" a m b (.inr ⟨rfl, .inr (.inl ⟨j-1,by omega,by rw[cN F,h1]⟩)⟩)))
   rw[decide_eq_false h1];refine cB ⟨_,rfl,_,rfl,k,_,_,_,rfl,rfl,bj.of (b _ _ ht),aG I,rfl,_,rfl,?_⟩;rw[sd];by_cases h2:ws[j]=")";·rw[decide_eq_true h2];exact bo (fin _ "" a m b (.inr ⟨rfl, .inr (.inr h2)⟩))
   ·rw[decide_eq_false h2];exact cB (fin _ g a m b (.inl n))
  refine⟨_,rfl,_,_,rfl,rfl,(by show(0:Int)<3;decide),rfl,_,rfl,bz (λ_=>?_) (λ_=>?_)⟩
  ·refine⟨(dF rfl),λB W=>?_⟩;have t1:=ak W (.lst (uD.map V.str));have f0:=Int.emod_nonneg (c/3+(j:Int)) (show(4:Int)≠0 by decide);have f1:=Int.emod_lt_of_pos (c/3+(j:Int)) (show(0:Int)<4 by decide);obtain⟨o,S⟩:∃o:Nat,(c/3+(j:Int))%4=(o:Int):=⟨((c/3+(j:Int))%4).toNat,by omega⟩;have G:o<uD.length:=by show o<4;omega
   refine⟨_,rfl,_,_,rfl,rfl,⟨by decide,by decide⟩,_,rfl,_,_,rfl,rfl,_,_,rfl,rfl,(by show(0:Int)<4;decide),B,_,_, .str uD[o],rfl,rfl,bj.of (show(upd N B (.lst (uD.map V.str))) B=some (.lst (uD.map V.str))from ag),(by rw[S];exact aG (by rw[fU,cN G];rfl)),?_⟩;exact mid _ uD[o] _ rfl (s1.trans t1) (List.getElem_mem G)
  ·exact mid _ " " _ rfl s1 (by decide)
 ·rintro C p⟨ln,z,u,rfl,J,s1⟩;refine⟨bB _,?_⟩;have T:ln.length<=19*ws.length:=J.len;have v:=J.wd;rw[nM (bB _)]at v;refine⟨_,rfl,_,_,rfl,rfl,(by show(0:Int)<6;decide),rfl,_,rfl,bz (λ_=>?_) (λ_=>?_)⟩
  ·have l1:(Str.ofString " ").length=1:=by decide+kernel
   have l2:(Str.ofString "\n").length=1:=by decide+kernel
   refine⟨_,rfl,_,_,rfl,rfl,(by rw[l1,sizeLine_eq];omega),_,_,rfl,rfl,(by rw[uZ,l1,l2,sizeLine_eq];omega),q _ p s1 ?_ (by rw[uZ,uZ,l1,l2];omega)⟩;rw[jC,jC,show(Str.ofString " ").cps.toList=[]++[32]by decide+kernel,show(Str.ofString "\n").cps.toList=[10]by decide+kernel,jh,<-v];unfold wS;rw[B1,show[32]++ln.cps.toList=[]++32::ln.cps.toList from rfl,lX,kA,jh,eY]
  ·exact⟨_,rfl,q _ p s1 v (by omega)⟩
end K54
end
section
namespace K54
open PySem L2 L3 KM PyProof.Rows
noncomputable def fQ(z:Str):Bool:=decide (z∈(["nat","none","zero"]:List Str))||(jP z||cG (.str z))
theorem HC{z:Str}{names:List Str}{st:List Fo}(h:fQ z=false):ck z names st=none:=by unfold fQ at h;rw[Bool.or_eq_false_iff,Bool.or_eq_false_iff]at h;unfold ck;rw[if_neg (of_decide_eq_false h.1),if_neg (by rw[h.2.1];decide),if_neg (by rw[h.2.2];decide)]
noncomputable def wt(h:Str):Nat:=(bq h).length+(if jk h BO=true then 1 else 0)
theorem z6:bq "("=[]/\cG (.str "(")=false:=⟨by kernel_rfl,by kernel_rfl⟩
theorem Du:bq ")"=[]/\cG (.str ")")=false:=⟨by kernel_rfl,by kernel_rfl⟩
theorem Ln:bq ""=[]:=by kernel_rfl
def LA(z:Str):Prop:=z≠"("/\z≠")"
theorem eM{ws:List Str}{fo:Fo}(h:cC (ws.take 2)=some fo):(∃(x:Str)(r:List Str),ws=x::r/\LA x/\bq x≠[]/\fo=⟨x,none,bq x,[]⟩/\jk x BO=false/\wt x=(bq x).length)\/(∃(x b:Str)(r:List Str),ws=x::b::r/\LA x/\LA b/\bq x≠[]/\fo=⟨x,some b,bq x,[]⟩/\jk x BO=true/\cG (.str b)=true/\wt x=(bq x).length+1):=by
 unfold cC at h;split at h;·cases h
 rename_i hd;obtain⟨x,r,rfl⟩:∃x r,ws=x::r:=by cases ws with|nil=>exact absurd Ln hd|cons x r=>exact⟨x,r,rfl⟩
 have hd:bq x≠[]:=hd;have nx:LA x:=⟨λz=>hd (z▸z6.1),λz=>hd (z▸Du.1)⟩;split at h;·rename_i hi;have hi:jk x BO=false:=hi;cases h;refine .inl ⟨x,r,rfl,nx,hd,rfl,hi,?_⟩;unfold wt;rw[hi];rfl
 ·rename_i hi;have a:jk x BO=true:=by have hi:¬jk x BO=false:=hi;simpa using hi
  clear hi;cases r with
   |nil=>cases h
   |cons b r=>
    have h:(if cG (.str b)=true then some (⟨x,some b,bq x,[]⟩:Fo)else none)=some fo:=h;split at h
    ·rename_i hb;cases h;refine .inr ⟨x,b,r,rfl,nx,⟨λz=>?_,λz=>?_⟩,hd,rfl,a,hb,?_⟩;·rw[z,z6.2]at hb;cases hb
     ·rw[z,Du.2]at hb;cases hb
     ·unfold wt;rw[a];rfl
    ·cases h
noncomputable def LH(fo:Fo):Nat:=if fo.name=none then 1 else 2
noncomputable def wD:Nat->List Str->Bool|_,[]=>true|0,_::_=>false|n+1,z::ws=>if z="("then(match cC (ws.take 2)with|none=>false|some fo=>wD n (ws.drop (LH fo)))else if z=")"then wD n ws else fQ z&&wD n ws
noncomputable def nB:List Str->Int|[]=>0|z::ws=>(if z="("then 1 else if z=")"then-1 else 0)+nB ws
noncomputable def sW:List Str->Int|[]=>0|z::ws=>(if z="("then(wt (ws.headD ""):Int)+2 else 0)+sW ws
noncomputable def rem:List Fo->Int|[]=>0|f::st=>(f.gT.length:Int)-f.parts.length+rem st
theorem D9{z:Str}{ws:List Str}(h:LA z):nB (z::ws)=nB ws:=by rw[nB,if_neg h.1,if_neg h.2];omega
theorem kK{z:Str}{ws:List Str}(h:z≠"("):sW (z::ws)=sW ws:=by rw[sW,if_neg h];omega
theorem ye{names:List Str}:∀(n:Nat)(ws:List Str)(st a:List Fo),ir names n ws st=some a->wD n ws=true/\(a.length:Int)=st.length+nB ws/\rem a=rem st+sW ws-ws.length
 |n,[],st,a,h=>by
  have :a=st:=by cases n<;>(cases h;rfl)
  subst this;refine⟨by cases n<;>rfl,?_,?_⟩;·rw[nB];omega
  ·rw[sW,dC];omega
 |0,_::_,_,_,h=>by cases h
 |n+1,z::ws,st,a,h=>by
  simp only[ir]at h;simp only[wD];rw[bD];split at h
  ·rename_i c;rw[if_pos c];cases j:cC (ws.take 2)with
    |none=>rw[j]at h;cases h
    |some fo=>
     rw[j]at h;have h:ir names n (ws.drop (LH fo)) (fo::st)=some a:=h;obtain⟨h1,h2,h3⟩:=ye n _ _ a h;refine⟨h1,?_⟩;rw[nB,if_pos c,sW,if_pos c];rw[bD]at h2;rw[rem]at h3;rcases eM j with⟨x,r,rfl,nx,hd,rfl,hi,hw⟩|⟨x,b,r,rfl,nx,nb,hd,rfl,hi,hn,hw⟩;·have e:(x::r).drop (LH ⟨x,none,bq x,[]⟩)=r:=rfl;rw[e]at h2 h3;rw[D9 nx,kK nx.1,List.headD_cons,hw];simp only[dC,bD]at h3⊢;omega
     ·have e:(x::b::r).drop (LH ⟨x,some b,bq x,[]⟩)=r:=rfl;rw[e]at h2 h3;rw[D9 nx,kK nx.1,D9 nb,kK nb.1,List.headD_cons,hw];simp only[dC,bD]at h3⊢;omega
  rename_i c;rw[if_neg c];split at h
  ·rename_i g;rw[if_pos g];match st,h with
    |[],h=>cases h
    |[_],h=>cases h
    |fo::go::r,h=>
     simp only at h;split at h;·rename_i k;cases f:cj go (OV fo)with|none=>rw[f]at h;cases h|some g'=>rw[f]at h;obtain⟨h1,h2,h3⟩:=ye n ws _ a h;obtain⟨a1,a2,_⟩:=dM f;refine⟨h1,?_⟩;rw[nB,if_neg c,if_pos g,kK c];subst a2;simp only[bD,rem,cx,dC]at h2 h3⊢;omega
     ·cases h
  rename_i g;rw[if_neg g];match st,h with
   |[],h=>cases h
   |fo::r,h=>
    simp only at h;cases i:ck z names (fo::r)with
     |none=>rw[i]at h;cases h
     |some d=>
      rw[i]at h;simp only at h;cases f:cj fo d with
       |none=>rw[f]at h;cases h
       |some f'=>
        rw[f]at h;obtain⟨h1,h2,h3⟩:=ye n ws _ a h;obtain⟨a1,a2,_⟩:=dM f;have lb:fQ z=true:=by cases e:fQ z with|true=>rfl|false=>rw[HC e]at i;cases i
        refine⟨by rw[lb,h1];rfl,?_⟩;rw[D9 ⟨c,g⟩,kK c];subst a2;simp only[bD,rem,cx,dC]at h2 h3⊢;omega
theorem Jt{n:Nat}{ws:List Str}(h:wD (n+1) ("("::ws)=true):∃fo,cC (ws.take 2)=some fo/\wD n (ws.drop (LH fo))=true:=by simp only[wD,if_true]at h;cases e:cC (ws.take 2)with|none=>rw[e]at h;cases h|some fo=>rw[e]at h;exact⟨fo,rfl,h⟩
theorem Kj{n:Nat}{z:Str}{ws:List Str}(h:wD (n+1) (z::ws)=true)(a:z≠"("):wD n ws=true/\(z=")"\/fQ z=true):=by
 simp only[wD]at h;rw[if_neg a]at h;split at h;·rename_i h2;exact⟨h, .inl h2⟩
 ·rw[bW]at h;exact⟨h.2, .inr h.1⟩
theorem iX:∀(n:Nat)(ws:List Str),wD n ws=true->∀j:Nat,ws[j]?=some ("(":Str)->∃fo,cC ((ws.drop (j+1)).take 2)=some fo
 |n,[],_,j,e=>by simp at e
 |0,_::_,h,_,_=>by cases h
 |n+1,z::ws,h,j,e=>by
  by_cases a:z="("
  ·subst a;obtain⟨fo,c,h2⟩:=Jt h;cases j with
    |zero=>exact⟨fo,c⟩
    |succ j=>
     rcases eM c with⟨x,r,rfl,nx,hd,rfl,hi,hw⟩|⟨x,b,r,rfl,nx,nb,hd,rfl,hi,hn,hw⟩;·cases j with|zero=>exact absurd (by simpa using e) nx.1|succ j=>exact iX n r h2 j (by simpa using e)
     ·match j with|0=>exact absurd (by simpa using e) nx.1|1=>exact absurd (by simpa using e) nb.1|j+2=>exact iX n r h2 j (by simpa using e)
  ·obtain⟨h2,_⟩:=Kj h a;cases j with|zero=>exact absurd (by simpa using e) a|succ j=>exact iX n ws h2 j (by simpa using e)
theorem iY:∀(n:Nat)(ws:List Str),wD n ws=true->∀(j:Nat)(y:Str),ws[j]?=some y->LA y->fQ y=true\/(bq y≠[]/\∃i,j=i+1/\ws[i]?=some ("(":Str))\/cG (.str y)=true
 |n,[],_,j,y,e,_=>by simp at e
 |0,_::_,h,_,_,_,_=>by cases h
 |n+1,z::ws,h,j,y,e,a=>by
  have c:∀{k:Nat}{r:List Str}(m:Nat),(∀i:Nat,(z::ws)[i+m]?=r[i]?)->j=k+m->(fQ y=true\/(bq y≠[]/\∃i,k=i+1/\r[i]?=some ("(":Str))\/cG (.str y)=true)->(fQ y=true\/(bq y≠[]/\∃i,j=i+1/\(z::ws)[i]?=some ("(":Str))\/cG (.str y)=true):=λm hm g h=>by
   rcases h with h|⟨h1,i,h2,h3⟩|h;·exact .inl h
   ·exact .inr (.inl ⟨h1,i+m,by omega,by rw[hm];exact h3⟩)
   ·exact .inr (.inr h)
  by_cases d:z="("
  ·subst d;obtain⟨fo,f,h2⟩:=Jt h;cases j with
    |zero=>exact absurd (by simpa using e.symm) a.1
    |succ j=>
     rcases eM f with⟨x,r,rfl,nx,hd,rfl,hi,hw⟩|⟨x,b,r,rfl,nx,nb,hd,rfl,hi,hn,hw⟩
     ·cases j with
       |zero=>
        have :x=y:=by simpa using e
        subst this;exact .inr (.inl ⟨hd,0,rfl,rfl⟩)
       |succ j=>exact c 2 (λi=>by simp) rfl (iY n r h2 j y (by simpa using e) a)
     ·rcases j with _|_|j
      ·have :x=y:=by simpa using e
       subst this;exact .inr (.inl ⟨hd,0,rfl,rfl⟩)
      ·have :b=y:=by simpa using e
       subst this;exact .inr (.inr hn)
      ·exact c 3 (λi=>by simp) rfl (iY n r h2 j y (by simpa using e) a)
  ·obtain⟨h2,h3⟩:=Kj h d;cases j with
    |zero=>
     have :z=y:=by simpa using e
     subst this;exact .inl (h3.resolve_left a.2)
    |succ j=>exact c 1 (λi=>by simp) rfl (iY n ws h2 j y (by simpa using e) a)
theorem sQ{names:List Str}(J:List Fo->Prop)(c:∀fo st,J st->J (fo::st))(hc:∀f g g' r,J (f::g::r)->cj g (OV f)=some g'->J (g'::r))(hl:∀f f' d r,J (f::r)->cj f d=some f'->J (f'::r)):∀(n:Nat)(ws:List Str)(st a:List Fo),J st->ir names n ws st=some a->J a
 |n,[],st,a,j,h=>by
  have :a=st:=by cases n<;>(cases h;rfl)
  subst this;exact j
 |0,_::_,_,_,_,h=>by cases h
 |n+1,z::ws,st,a,j,h=>by
  simp only[ir]at h;split at h;·cases e:cC (ws.take 2)with|none=>rw[e]at h;cases h|some fo=>rw[e]at h;exact sQ J c hc hl n _ _ a (c fo st j) h
  split at h
  ·match st,j,h with
    |[],j,h=>cases h
    |[_],j,h=>cases h
    |fo::go::r,j,h=>
     simp only at h;split at h;·cases b:cj go (OV fo)with|none=>rw[b]at h;cases h|some g'=>rw[b]at h;exact sQ J c hc hl n _ _ a (hc _ _ _ _ j b) h
     ·cases h
  ·match st,j,h with|[],j,h=>cases h|fo::r,j,h=>simp only at h;cases i:ck z names (fo::r)with|none=>rw[i]at h;cases h|some d=>rw[i]at h;simp only at h;cases b:cj fo d with|none=>rw[b]at h;cases h|some f'=>rw[b]at h;exact sQ J c hc hl n _ _ a (hl _ _ _ _ j b) h
def Uw(dd:Str)(st:List Fo):Prop:=∃l f,st=l++[f]/\f.gT=[dd]/\f.parts.length<=1
theorem zN{dd:Str}{f f':Fo}{d:D}{r:List Fo}(h:Uw dd (f::r))(e:cj f d=some f'):Uw dd (f'::r):=by obtain⟨l,b,h1,h2,h3⟩:=h;obtain⟨a1,a2,_⟩:=dM e;cases l with|nil=>have h1:f::r=[b]:=h1;cases h1;refine⟨[],f',rfl,by rw[a2];exact h2,?_⟩;rw[a2];rw[h2]at a1;simp only[cx,bD,dC]at a1⊢;omega|cons g l=>have h1:f::r=g::(l++[b]):=h1;cases h1;exact⟨f'::l,b,rfl,h2,h3⟩
theorem MD{names:List Str}{dd:Str}{n:Nat}{ws:List Str}{st i:List Fo}(h:ir names n ws st=some i)(j:Uw dd st):Uw dd i:=by refine sQ (Uw dd) (λfo st⟨l,f,a,b,c⟩=>⟨fo::l,f,by rw[a];rfl,b,c⟩) (λf g g' r h e=>?_) (λf f' d r h e=>zN h e) n ws st i j h;obtain⟨l,b,h1,h2,h3⟩:=h;cases l with|nil=>cases h1|cons x l=>have h1:f::g::r=x::(l++[b]):=h1;injection h1 with _ h1;exact zN ⟨l,b,h1,h2,h3⟩ e
theorem D_{names:List Str}{dd:Str}{ws:List Str}{d:D}(h:cg names dd ws=some d):wD ws.length ws=true/\nB ws=0/\sW ws+1=ws.length:=by
 unfold cg at h;cases e:ir names ws.length ws [uS dd]with
  |none=>rw[e]at h;cases h
  |some st=>
   rw[e]at h;obtain⟨h1,h2,h3⟩:=ye _ _ _ _ e;obtain⟨l,f,a,b,c⟩:=MD e ⟨[],uS dd,rfl,rfl,fV _⟩;match st,h,h2,h3,a with
    |[fo],h,h2,h3,a=>
     have i:fo=f:=by cases l with|nil=>simpa using a|cons x l=>have :=congrArg List.length a;simp at this
     subst i;have h:fo.parts.head?=some d:=h;have lp:fo.parts.length=1:=by cases g:fo.parts with|nil=>rw[g]at h;cases h|cons x r=>rw[g]at c;simp at c;rw[c];rfl
     refine⟨h1,?_,?_⟩;·simp only[bD,dC]at h2;omega
     ·simp only[rem,uS,bD,dC]at h3;rw[b,lp]at h3;simp only[bD,dC]at h3;omega
    |[],h,_,_,_=>cases h
    |_::_::_,h,_,_,_=>cases h
theorem eS{names:List Str}{dd:Str}{ws:List Str}(h:wD ws.length ws=true->nB ws=0->sW ws+1=ws.length->False):cg names dd ws=none:=by cases e:cg names dd ws with|none=>rfl|some d=>exact absurd (D_ e) λ⟨a,b,c⟩=>h a b c
theorem uL:∀a b:List Str,nB (a++b)=nB a+nB b|[],b=>by rw[jh,nB];omega|z::a,b=>by rw[List.cons_append,nB,nB,uL a b];omega
theorem IV:∀(a b c:List Str),wt (b.headD "")=wt (c.headD "")->sW b=sW c->sW (a++b)=sW (a++c)
 |[],b,c,_,h=>h
 |z::a,b,c,h1,h2=>by
  rw[List.cons_append,List.cons_append,sW,sW,IV a b c h1 h2];have :wt ((a++b).headD "")=wt ((a++c).headD ""):=by cases a with|nil=>exact h1|cons x a=>rfl
  rw[this]
theorem B8:∀(a b:List Str),a.getLast?≠some ("(":Str)->sW (a++b)=sW a+sW b
 |[],b,_=>by rw[jh,sW];omega
 |[z],b,h=>by have c:z≠"(":=λe=>h (by rw[e];rfl);rw[List.cons_append,jh,kK c,kK c,sW];omega
 |z::y::a,b,h=>by
  have h1:=B8 (y::a) b (λe=>h (by rw[List.getLast?_cons_cons];exact e));have d:sW (z::((y::a)++b))=(if z="("then((wt y:Nat):Int)+2 else 0)+sW ((y::a)++b):=by rw[sW];rfl
  have f:sW (z::y::a)=(if z="("then((wt y:Nat):Int)+2 else 0)+sW (y::a):=by rw[sW];rfl
  show sW (z::((y::a)++b))=_;rw[d,f,h1];omega
theorem NV{z:Str}(h:bq z=[])(h2:jk z BO=false):wt z=0:=by unfold wt;rw[h,h2];rfl
theorem U8:wt ")"=0:=NV Du.1 (by kernel_rfl)
theorem aaC:wt "0"=0:=NV (by kernel_rfl) (by kernel_rfl)
section
variable{names:List Str}{dd:Str}{a b:List Str}{z:Str}
theorem OX(h:z="("\/z=")"):nB [z]=1\/nB [z]=-1:=by
 rcases h with rfl|rfl;·left;kernel_rfl
 ·right;kernel_rfl
theorem JS:nB (a++z::b)=nB a+nB [z]+nB b:=by rw[show a++z::b=a++([z]++b)by simp,uL,uL];omega
theorem Td(h:nB (a++z::b)=0)(c:z="("\/z=")"):cg names dd (a++b)=none:=eS λ_ h2 _=>by rw[JS]at h;rw[uL]at h2;rcases OX c with e|e<;>omega
theorem Hk(h:nB (a++b)=0)(c:z="("\/z=")"):cg names dd (a++z::b)=none:=eS λ_ h2 _=>by rw[JS]at h2;rw[uL]at h;rcases OX c with e|e<;>omega
theorem R8{ws:List Str}(d:wD ws.length ws=true)(h:sW ws+1=ws.length):cg names dd (ws++ws)=none:=eS λ_ _ h3=>by
 have hl:ws.getLast?≠some ("(":Str):=λe=>by obtain⟨l,rfl⟩:=List.getLast?_eq_some_iff.mp e;obtain⟨fo,c⟩:=iX _ _ d l.length (by simp);rw[xu (by simp)]at c;rcases eM (ws:=[]) c with⟨_,_,z,_⟩|⟨_,_,_,z,_⟩<;>cases z
 rw[B8 _ _ hl,cx]at h3;omega
theorem Tu:cg names dd []=none:=eS λ_ _ h3=>by rw[sW]at h3;simp at h3
theorem MR(h:sW (a++(")":Str)::b)+1=(a++(")":Str)::b).length):cg names dd (a++("0":Str)::(")":Str)::b)=none:=eS λ_ _ h3=>by have e:sW (a++("0":Str)::(")":Str)::b)=sW (a++(")":Str)::b):=IV a _ _ (by show wt "0"=wt ")";rw[aaC,U8]) (kK (by decide+kernel));rw[e]at h3;simp only[cx,bD]at h h3;omega
theorem M3:(bg.all λr=>r.2.isEmpty||(!fQ r.1&&!cG (.str r.1)))=true:=by kernel_rfl
theorem Ld{x:Str}{v:List V}:∀{l:List (Str×List V)},l.lookup x=some v->(x,v)∈l
 |[],h=>by cases h
 |(k,u)::l,h=>by
  rw[jg]at h;split at h;·rename_i e;cases h;rw[show x=k by simpa using e];exact b5
  ·exact cU _ (Ld h)
theorem JD{y:Str}(h:fQ y=true\/cG (.str y)=true):bq y=[]:=by
 unfold bq;cases e:bg.lookup y with
  |none=>rfl
  |some v=>
   have c:=List.all_eq_true.mp M3 (y,v) (Ld e);rw[Bool.or_eq_true]at c;rcases c with c|c;·cases v with|nil=>rfl|cons _ _=>cases c
   ·rw[bW]at c;rcases h with h|h;·have c:=c.1;rw[h]at c;cases c
    ·have c:=c.2;rw[h]at c;cases c
theorem Ms(k:wD (a++z::b).length (a++z::b)=true)(h:sW (a++z::b)+1=(a++z::b).length)(f:LA z):cg names dd (a++b)=none:=by
 by_cases hl:a.getLast?=some ("(":Str)
 ·refine eS λh1 _ _=>?_;obtain⟨l,rfl⟩:=List.getLast?_eq_some_iff.mp hl;obtain⟨fo,c⟩:=iX _ _ h1 l.length (by simp);have j:(l++[("(":Str)]++b).drop (l.length+1)=b:=by rw[List.drop_append_of_le_length (by simp)];simp
  rw[j]at c;have hb:bq (b.headD "")≠[]:=by rcases eM c with⟨x,r,rfl,_,hd,_⟩|⟨x,y,r,rfl,_,_,hd,_⟩<;>exact hd
  cases b with
   |nil=>exact hb Ln
   |cons y b=>
    have hb:bq y≠[]:=hb;by_cases d:LA y
    ·have hw:=iY _ _ k (l.length+2) y (by simp) d;rcases hw with hw|⟨_,i,hi,hw⟩|hw;·exact hb (JD (.inl hw))
     ·have :i=l.length+1:=by omega
      subst this;have :z="(":=by have hw:(l++[("(":Str)]++z::y::b)[l.length+1]?=some ("(":Str):=hw;rw[List.getElem?_append_right (by simp)]at hw;simpa using hw
      exact f.1 this
     ·exact hb (JD (.inr hw))
    ·by_cases e:y="(";·exact hb (e▸z6.1)
     ·have :y=")":=Classical.byContradiction λg=>d ⟨e,g⟩;exact hb (this▸Du.1)
 ·refine eS λ_ _ h3=>?_;rw[B8 _ _ hl]at h h3;rw[kK f.1]at h;simp only[cx,bD]at h h3;omega
end
section
variable{names:List Str}{dd:Str}{a b:List Str}{z:Str}
structure Ka(o:Str):Prop where
 nb:LA o
 lf:fQ o=false
 du:bq o=[]
theorem Ka.nm{o:Str}(h:Ka o):cG (.str o)=false:=by have :=h.lf;unfold fQ at this;rw[Bool.or_eq_false_iff,Bool.or_eq_false_iff]at this;exact this.2.2
theorem QK{o:Str}(h:Ka o):cg names dd (a++o::b)=none:=eS λh1 _ _=>by
 rcases iY _ _ h1 a.length o (by simp) h.nb with e|⟨e,_⟩|e;·rw[h.lf]at e;cases e
 ·exact e h.du
 ·rw[h.nm]at e;cases e
theorem Oy{c:List Str}(h:wD (a++(("(":Str)::c)).length (a++("(":Str)::c)=true):∃fo,cC (c.take 2)=some fo:=by
 obtain⟨fo,d⟩:=iX _ _ h a.length (by simp);have e:(a++("(":Str)::c).drop (a.length+1)=c:=by rw[List.drop_append,xu (by omega),jh,show a.length+1-a.length=1 by omega];rfl
 rw[e]at d;exact⟨fo,d⟩
theorem Nf{x o:Str}(g:jk x BO=true)(f:cG (.str o)=false):cg names dd (a++("(":Str)::x::o::b)=none:=eS λh1 _ _=>by
 obtain⟨fo,d⟩:=Oy h1;rcases eM d with⟨y,r,e,_,_,_,hi,_⟩|⟨y,c,r,e,_,_,_,_,_,hn,_⟩;·cases e;rw[g]at hi;cases hi
 ·cases e;rw[f]at hn;cases hn
theorem wW{x:Str}{c:List Str}(d:bq x=[]):cg names dd (a++("(":Str)::x::c)=none:=eS λh1 _ _=>by
 obtain⟨fo,f⟩:=Oy h1;rcases eM f with⟨y,r,e,_,hd,_⟩|⟨y,c,r,e,_,_,hd,_⟩;·cases e;exact hd d
 ·cases e;exact hd d
theorem LW{c:List Str}(d:wD (a++z::b).length (a++z::b)=true)(f:LA z)(hl:a.getLast?≠some ("(":Str)):cg names dd (a++("(":Str)::z::c)=none:=by
 refine wW (JD ?_);rcases iY _ _ d a.length z (by simp) f with e|⟨_,i,hi,e⟩|e;·exact .inl e
 ·refine absurd ?_ hl;rw[AL (by omega)]at e;rw[List.getLast?_eq_getElem?,hi];exact e
 ·exact .inr e
def Jk(dd h:Str)(st:List Fo):Prop:=(∃l f b,st=l++[f,b]/\f.word=h/\b.parts=[]/\b.gT=[dd])\/(∃l b,st=l++[b]/\b.gT=[dd]/\b.parts.length=1/\dB h=decide (dd="kind"))
theorem xD{h:Str}{f f':Fo}{d:D}{r:List Fo}(j:Jk dd h (f::r))(e:cj f d=some f')(ne:r≠[]):Jk dd h (f'::r):=by
 obtain⟨a1,a2,_⟩:=dM e;rcases j with⟨l,g,b,h1,h2,h3,h4⟩|⟨l,b,h1,h2,h3,h4⟩;·cases l with|nil=>have h1:f::r=[g,b]:=h1;cases h1;exact .inl ⟨[],f',b,rfl,by rw[a2];exact h2,h3,h4⟩|cons x l=>have h1:f::r=x::(l++[g,b]):=h1;cases h1;exact .inl ⟨f'::l,g,b,rfl,h2,h3,h4⟩
 ·cases l with|nil=>have h1:f::r=[b]:=h1;cases h1;exact absurd rfl ne|cons x l=>have h1:f::r=x::(l++[b]):=h1;cases h1;exact .inr ⟨f'::l,b,rfl,h2,h3,h4⟩
theorem JF{h:Str}{f f':Fo}{d:D}(j:Jk dd h [f])(e:cj f d=some f'):False:=by
 obtain⟨a1,_⟩:=dM e;rcases j with⟨l,g,b,h1,_⟩|⟨l,b,h1,h2,h3,_⟩;·have :=congrArg List.length h1;simp at this
 ·cases l with|nil=>have h1:[f]=[b]:=h1;cases h1;rw[h2,h3]at a1;exact absurd (show 1<1 from a1) (by decide)|cons x l=>have :=congrArg List.length h1;simp at this
theorem QE{h:Str}{n:Nat}{ws:List Str}{st k:List Fo}(e:ir names n ws st=some k)(j:Jk dd h st):Jk dd h k:=by
 refine sQ (Jk dd h) (λfo st j=>?_) (λf g g' r j e=>?_) (λf f' d r j e=>?_) n ws st k j e
 ·rcases j with⟨l,f,b,a1,a2⟩|⟨l,b,a1,a2⟩;·exact .inl ⟨fo::l,f,b,by rw[a1];rfl,a2⟩
  ·exact .inr ⟨fo::l,b,by rw[a1];rfl,a2⟩
 ·obtain⟨a1,a2,m,a3,a4⟩:=dM e;rcases j with⟨l,i,b,h1,h2,h3,h4⟩|⟨l,b,h1,h2,h3,h4⟩
  ·cases l with
    |nil=>
     have h1:f::g::r=[i,b]:=h1;cases h1;refine .inr ⟨[],g',rfl,by rw[a2];exact h4,by rw[a2,h3];rfl,?_⟩;rw[h4,h3]at a3;have :m=dd:=by simpa using a3.symm
     rw[this]at a4;rw[<-h2,<-a4];rfl
    |cons x l=>have h1:f::g::r=x::(l++[i,b]):=h1;injection h1 with _ h1;have c:Jk dd h (g::r):= .inl ⟨l,i,b,h1,h2,h3,h4⟩;cases r with|nil=>exact(JF c e).elim|cons y r=>exact xD c e (by simp)
  ·cases l with|nil=>cases h1|cons x l=>have h1:f::g::r=x::(l++[b]):=h1;injection h1 with _ h1;have c:Jk dd h (g::r):= .inr ⟨l,b,h1,h2,h3,h4⟩;cases r with|nil=>exact(JF c e).elim|cons y r=>exact xD c e (by simp)
 ·cases r with|nil=>exact(JF j e).elim|cons y r=>exact xD j e (by simp)
theorem ET{fo:Fo}{n:Nat}{ws:List Str}{st:List Fo}{d:D}(e:ir names n ws [fo,uS dd]=some st)(h:outD (some st)=some d):dB fo.word=decide (dd="kind"):=by
 rcases QE e (.inl ⟨[],fo,uS dd,rfl,rfl,rfl,rfl⟩)with⟨l,f,b,h1,_⟩|⟨_,_,_,_,_,h4⟩;·subst h1;cases l with|nil=>cases h|cons x l=>cases l<;>cases h
 ·exact h4
theorem LO{e:Str}{ws:List Str}{d:D}(h:cg names dd ws=some d)(l:decide (dd="kind")≠decide (e="kind")):cg names e ws=none:=by
 cases c:cg names e ws with
  |none=>rfl
  |some d'=>
   exfalso;unfold cg at h c;cases ws with
    |nil=>cases h
    |cons z ws=>
     simp only[bD,ir]at h c;by_cases m:z="(";·rw[if_pos m]at h c;cases k:cC (ws.take 2)with|none=>rw[k]at h;cases h|some fo=>rw[k]at h c;simp only at h c;cases f:ir names ws.length (ws.drop (if fo.name=none then 1 else 2)) [fo,uS dd]with|none=>rw[f]at h;cases h|some s1=>cases g:ir names ws.length (ws.drop (if fo.name=none then 1 else 2)) [fo,uS e]with|none=>rw[g]at c;cases c|some s2=>rw[f]at h;rw[g]at c;exact l ((ET f h).symm.trans (ET g c))
     ·rw[if_neg m]at h c;by_cases n:z=")";·rw[if_pos n]at h;cases h
      ·rw[if_neg n]at h c;have u:ck z names [uS dd]=ck z names [uS e]:=rfl;rw[u]at h;cases j:ck z names [uS e]with|none=>rw[j]at h;cases h|some i=>rw[j]at h c;simp only at h c;cases o:cj (uS dd) i with|none=>rw[o]at h;cases h|some x=>cases p:cj (uS e) i with|none=>rw[p]at c;cases c|some y=>obtain⟨_,_,v,a1,q⟩:=dM o;obtain⟨_,_,w,a2,r⟩:=dM p;have s:some dd=some v:=a1;have t:some e=some w:=a2;cases s;cases t;exact l (q.symm.trans r)
end
end K54
end
section
namespace L3
open PySem PySem.Spec PyProof.Rows L2
theorem Ej:∀{a:List Addr}{us:List Value},Vals (a.map V.ref) us->us=a.map Value.ref|[],_, .nil=>rfl|c::a,_, .cons r t=>by cases r;rw[Ej t];rfl
theorem vR{X:Cx}{K:PySem.W.Frag}{a C:Addr}{oe:Obj}(i:(a,oe)∈X.pn)(hc:oe.cls= .ref C)(d:X.K=K:=by rfl):fA X (.builtin "isinstance") (λxs H Q=>∃(tp:Addr)(c:List Addr)(b:Bool),xs=[.ref a, .ref tp]/\sS K C/\H tp=some (.tup (c.map V.ref))/\PySem.W.kitAny K (.ref C) (c.map Value.ref)=some b/\Q (.bl b) H):=by subst d;intro pins s σ H xs us Q I r h;obtain⟨tp,c,b,rfl,G,j,e,q⟩:=h;obtain⟨u,v,rfl,l,m⟩:=r.two;cases l;cases m;obtain⟨z,its,k,⟨oc,od,o,Ge⟩,g,f,n,hd⟩:=I.cI tp _ j;have :=Ej k;subst this;cases f;cases hd;exact PySem.W.kia_tup (nE G) I.ic ⟨oe,(I.pin (a,oe) (kP _ i)).1,hc⟩ g e (λz=>nomatch z) λtk=>⟨.bl b,H,I.tok tk,rfl,q⟩
end L3
end
section
namespace K54
open PySem L2 L3 KM PyProof.Rows
seal L2.PE L2.PS L2.jx L2.PT L2.PW L2.PA L2.PG L2.G0 L2.PI L2.PC L2.PO L2.G3 L2.PK L3.Ba L3.PH L3.PB
variable{P:Program}{w:World}{K:PySem.W.Frag}{mg:Str->Option Value}{base:Heap}{t:y_}
noncomputable def wU(t:y_):List Addr:=[t.Dry,t.gi,t.HS,t.DH,t.Kl,t.tM,t.JE,t.HG]
noncomputable def KH(t:y_):List Addr:=[t.JR,t.vA,t.Fb,t.DM,t.wg]
structure Ek(K:PySem.W.Frag)(t:y_):Prop where
 nt:lO K t.aU
 ke:lO K t.iR
 gr:lO K t.gi
 c:sS K t.aU
 s2:PySem.W.subIn K (.ref t.aU) (.ref t.iR)=some true
 k1:PySem.W.kitOne K (.ref t.aU) (.type "ValueError")=some true
 k2:PySem.W.kitOne K (.ref t.aU) (.ref t.aU)=some true
 a1:PySem.W.kitAny K (.ref t.aU) ((wU t).map Value.ref)=some false
 a2:PySem.W.kitAny K (.ref t.aU) ((KH t).map Value.ref)=some false
def lT:Sp:=λvs H Q _=>∃(T k dd:Str)(b:Addr)(names:List Str),vs=[.str T, .str k, .ref b]/\T.length<=99999/\H b=some (.lst (names.map V.str))/\names.length<=1000/\(bL T.cps.toList).length<=50000/\(∀z∈bL T.cps.toList,1<=z.length/\z.length<=1000)/\dd=(if k="k"then"kind"else"term")/\cg names dd ((bL T.cps.toList).map tx)=none/\∀H',aD H H'->Q (.bl true) H'
theorem iS:aJ ["_law_line","_law_want","_law_names","e"] ["_law_line","_law_want","_law_names"] (aq eQ):=⟨rfl,rfl,rfl,by decide+kernel,rfl,by decide+kernel,by decide+kernel⟩
theorem vc(D:Df K mg "_law_refused" eQ ["_law_line","_law_want","_law_names"])(M:Mg mg t)(X:Ek K t)(N:da P w K mg (gK P w) "read_term" (67) ["text","names"] (MK "term" K t.aU t.gi))(L:da P w K mg (gK P w) "read_kind" (67) ["text","names"] (MK "kind" K t.aU t.gi)):da P w K mg cR "_law_refused" (140) ["_law_line","_law_want","_law_names"] lT:=by
 refine D.ok iS (λvs H Q E h=>?_) (λbase f cH A outer s H vs Q E x h=>?_);·obtain⟨T,k,dd,b,names,rfl,_⟩:=h;rfl
 obtain⟨T,k,dd,b,names,rfl,B,hb,hn,G,I,m,F,q⟩:=h;have J:=X.ke;have hh:=x.hd (by decide);refine⟨_,(ah (Qu rfl rfl rfl (We (ar aN (pv 1) ai (az _)) (Fs L x.m rfl rfl (aa (pv 0) (aa (pv 2) af))) (Fs N x.m rfl rfl (aa (pv 0) (aa (pv 2) af)))) (XR (i:=3) false iS.nd rfl rfl J M.g_KeeperError rfl (λz=>nomatch z) (λa C oe n=>(ah (aS (eF (aM (vR (K:=K) b5 n) rfl M.dE c_ (aa (pv 3) (aa (bQ (aa (bV M.g_Dry rfl) (aa (bV M.g_Great rfl) (aa (bV M.g_NoName rfl) (aa (bV M.g_NoPlace rfl) (aa (bV M.g_NoStep rfl) (aa (bV M.g_NoVariable rfl) (aa (bV M.g_NoWord rfl) (aa (bV M.g_Unlike rfl) af))))))))) af)))) (ao (aB wC)) aC) (ah (aS (eF (aM (vR (K:=K) b5 n) rfl M.dE c_ (aa (pv 3) (aa (bQ (aa (bV M.g_NotAll rfl) (aa (bV M.g_NotClosed rfl) (aa (bV M.g_NotSame rfl) (aa (bV M.g_NotSome rfl) (aa (bV M.g_TwiceTold rfl) af)))))) af)))) (ao (aB wC)) aC) (ao (aB (ua (aM (wb (K:=K) b5 n) rfl M.dE c_ (aa (pv 3) (aa (bV M.g_NoText rfl) af))) (tN (aM (wb (K:=K) b5 n) rfl M.dE c_ (aa (pv 3) (aa (JY M.yn vk rfl) af)))))))))) Rr)) (ao (aB wC))),?_⟩;try dsimp only[j6,R]
 refine vn ?_;intro _ _;refine⟨_,rfl,rfl,_,rfl,bz (λc=>?_) (λc=>?_)⟩
 ·have c:V.str k=V.str "k":=of_decide_eq_true c;have v:k="k":=by injection c
  rw[if_pos v]at m;subst m;refine⟨_,rfl,_,rfl,T,b,rfl,T,_,b,names,rfl,B,hb,hn,G,I,λ_ j s1=>⟨_,rfl,λa1 O=>⟨true,X.s2,bo ?_⟩⟩,λd e=>by rw[F]at e;cases e⟩;refine⟨_,rfl,(dF rfl),λg p=>⟨g,wU t,false,rfl,X.c,ag,X.a1,_,rfl,cB ?_⟩⟩;have l:=s1.trans (ak p (.tup ((wU t).map V.ref)));show(λo=>_) (upd j g (.tup ((wU t).map V.ref)));generalize upd j g (.tup ((wU t).map V.ref))=o at l⊢;refine⟨_,rfl,(dF rfl),λy r=>⟨y,KH t,false,rfl,X.c,ag,X.a2,_,rfl,cB ?_⟩⟩;refine⟨_,rfl, .ref t.aU, .ref t.aU,true,rfl,X.c,λu h=>h,X.k2,true,rfl,bo ?_⟩;exact⟨_,rfl, .ty "ValueError", .type "ValueError",true,rfl,X.c,λu h=>h,X.k1,q _ (l.trans (ak r _))⟩
 ·have v:k≠"k":=λz=>c (decide_eq_true (by rw[z]));rw[if_neg v]at m;subst m;refine⟨_,rfl,_,rfl,T,b,rfl,T,_,b,names,rfl,B,hb,hn,G,I,λ_ j s1=>⟨_,rfl,λa1 O=>⟨true,X.s2,bo ?_⟩⟩,λd e=>by rw[F]at e;cases e⟩;refine⟨_,rfl,(dF rfl),λg p=>⟨g,wU t,false,rfl,X.c,ag,X.a1,_,rfl,cB ?_⟩⟩;have l:=s1.trans (ak p (.tup ((wU t).map V.ref)));show(λo=>_) (upd j g (.tup ((wU t).map V.ref)));generalize upd j g (.tup ((wU t).map V.ref))=o at l⊢;refine⟨_,rfl,(dF rfl),λy r=>⟨y,KH t,false,rfl,X.c,ag,X.a2,_,rfl,cB ?_⟩⟩;refine⟨_,rfl, .ref t.aU, .ref t.aU,true,rfl,X.c,λu h=>h,X.k2,true,rfl,bo ?_⟩;exact⟨_,rfl, .ty "ValueError", .type "ValueError",true,rfl,X.c,λu h=>h,X.k1,q _ (l.trans (ak r _))⟩
theorem NB:(C5.all λz=>z.cps.toList.all d9)=true:=by decide+kernel
theorem M7{c:Nat}(h:vw c=true):d9 c=false:=by
 unfold vw at h;rw[bW]at h;have h1:=of_decide_eq_true h.1;have h2:=of_decide_eq_true h.2;have :c=48\/c=49\/c=50\/c=51\/c=52\/c=53\/c=54\/c=55\/c=56\/c=57:=by omega
 rcases this with rfl|rfl|rfl|rfl|rfl|rfl|rfl|rfl|rfl|rfl<;>decide+kernel
theorem Im{o:Str}{w1 w2:List Nat}{c:Nat}(e:o.cps.toList=w1++c::w2)(hl:∀x∈w1++w2,d9 x=true)(hn:w1++w2≠[])(hc:d9 c=false):Ka o:=by
 have cm:c∈o.cps.toList:=by rw[e];simp
 have d:¬(o.cps.toList.all d9)=true:=λh=>by have :=List.all_eq_true.mp h c cm;rw[hc]at this;cases this
 have ns:o∉C5:=λm=>d (List.all_eq_true.mp NB o m);have ln:2<=o.cps.toList.length:=by
  rw[e];cases w1 with
   |nil=>cases w2 with|nil=>exact absurd rfl hn|cons x w=>simp
   |cons x w=>simp;omega
 have nb:∀z:Str,z.cps.toList.length=1->o≠z:=λz g h=>by rw[h,g]at ln;exact absurd ln (by decide)
 refine⟨⟨nb _ (by decide+kernel),nb _ (by decide+kernel)⟩,?_,?_⟩
 ·unfold fQ;rw[Bool.or_eq_false_iff,Bool.or_eq_false_iff];refine⟨decide_eq_false λm=>ns ?_,?_,?_⟩;·simp only[List.mem_cons,kh,or_false]at m;rcases m with rfl|rfl|rfl<;>decide+kernel
  ·cases a:jP o with
    |false=>rfl
    |true=>
     exfalso;unfold jP at a;rw[bW,bW]at a;obtain⟨x,b⟩:=List.exists_mem_of_ne_nil _ hn;have i:x∈o.cps.toList:=by
      rw[e];rcases List.mem_append.mp b with h|h;·exact kP _ h
      ·exact gP _ (cU _ h)
     have :=M7 (List.all_eq_true.mp a.2.1 x i);rw[hl x b]at this;cases this
  ·cases f:cG (.str o)with|false=>rfl|true=>exact absurd (List.all_eq_true.mpr (g0 f).2.2.2) d
 ·unfold bq;rw[(vL o).mpr ns];rfl
noncomputable def Cc:List Str:=["Nat","x1","-1","007","40","a_b","var","name","lettersofmore","0x"]
noncomputable def SS(o:Str):Bool:=(decide (o≠"(")&&decide (o≠")"))&&((!fQ o&&(bq o).isEmpty)&&(decide (1<=o.length)&&(decide (o.length<=13)&&o.cps.toList.all λc=>!brk c)))
theorem MN:Cc.all SS=true:=by kernel_rfl
structure Lc(o:Str):Prop where
 bd:Ka o
 l1:1<=o.length
 l2:o.length<=13
 wd:bL o.cps.toList=[o.cps.toList]
theorem Qr{o:Str}(h:SS o=true):Lc o:=by unfold SS at h;rw[bW,bW,bW,bW,bW,bW]at h;obtain⟨⟨a1,a2⟩,⟨a,b⟩,d,e,f⟩:=h;have l1:=of_decide_eq_true d;refine⟨⟨⟨of_decide_eq_true a1,of_decide_eq_true a2⟩,by simpa using a,List.isEmpty_iff.mp b⟩,l1,of_decide_eq_true e,tm (λc hc=>by simpa using List.all_eq_true.mp f c hc) λz=>?_⟩;rw[str_len,z]at l1;exact absurd l1 (by decide)
theorem AD{o z:Str}{w1 w2:List Nat}{c:Nat}(g:isNm z=true)(e:o.cps.toList=w1++c::w2)(b:z.cps.toList=w1++w2)(hc:d9 c=false)(hb:brk c=false):Lc o:=by
 obtain⟨f,j,k,a⟩:=g0 g;rw[b]at f a;have i:z.length=(w1++w2).length:=by rw[str_len,b]
 have lo:o.length=(w1++w2).length+1:=by rw[str_len,e];simp only[cx,bD];omega
 refine⟨Im e a f hc,by omega,by omega,tm (λx d=>?_) (by rw[e];simp)⟩;rw[e]at d;rcases List.mem_append.mp d with h|h;·exact yV (a x (kP _ h))
 ·rcases List.mem_cons.mp h with rfl|h;·exact hb
  ·exact yV (a x (gP _ h))
noncomputable def Zj:Str:="'_-.01A9*+"
noncomputable def sgB:Str:="!\"#$&'*+,-./0123456789:;<=>?@ABCDEFGHIJKLMNOPQRSTUVWXYZ[\\]^_`{|}~"
theorem Rx:Zj.cps.toList.length=10/\(Zj.cps.toList.all λc=>!d9 c&&!brk c)=true:=⟨by decide+kernel,by decide+kernel⟩
theorem Tf:sgB.cps.toList.length=65/\(sgB.cps.toList.all λc=>!d9 c&&!brk c)=true:=⟨by decide+kernel,by decide+kernel⟩
theorem PF{s:Str}{n:Nat}(h:s.cps.toList.length=n/\(s.cps.toList.all λc=>!d9 c&&!brk c)=true){j:Int}(a:0<=j)(h1:j<n):∃c,zj s.cps.toList j=some c/\d9 c=false/\brk c=false:=by
 have hl:j.toNat<s.cps.toList.length:=by rw[h.1];omega
 have c:=List.all_eq_true.mp h.2 _ (List.getElem_mem hl);rw[bW]at c;refine⟨s.cps.toList[j.toNat],?_,by simpa using c.1,by simpa using c.2⟩;have :=aG (cN hl);rw[show((j.toNat:Nat):Int)=j by omega]at this;exact this
def OO:Sp:=λvs H Q _=>∃c:Int,vs=[.int c]/\∀(o:Str)(H':Hp),aD H H'->Lc o->Q (.str o) H'
theorem fR:aJ ["_law_cell","_law_odd_here","_law_some","_law_word","_law_at"] ["_law_cell"] (aq jb):=⟨rfl,rfl,rfl,by decide+kernel,rfl,by decide+kernel,by decide+kernel⟩
theorem Gj(D:Df K mg "_law_odd" jb ["_law_cell"])(M:Mg mg t)(G:da P w K mg cR "_law_name_by" (2) ["_law_cell"] lR):da P w K mg cR "_law_odd" (3) ["_law_cell"] OO:=by
 refine D.ok fR (λvs H Q E h=>?_) (λbase f cH A outer s H vs Q E J h=>?_);·obtain⟨c,rfl,_⟩:=h;rfl
 obtain⟨c,rfl,q⟩:=h;have one:∀c:Nat,(⟨#[c]⟩:Str).length=1:=λc=>rfl;refine⟨_,(ah (aE (i:=1) fR.nd rfl (dh rfl) (aT (aa ai (aa ai (aa ai (aa ai (aa ai (aa ai (aa ai (aa ai (aa ai (aa ai af)))))))))))) (ah (aS (ar aN (ay bu (pv 0) aj) aj (az _)) (ao (aB (aZ aP (pv 1) (ay bu (ay bE (pv 0) aj) aj) (λ_ _=>rfl)))) aC) (ah (aE (i:=2) fR.nd rfl (dh rfl) ai) (ah (aE (i:=3) fR.nd rfl (dh rfl) (bA G J.m rfl bh (aa (ay bE (pv 0) aj) af))) (ah (aE (i:=4) fR.nd rfl (dh rfl) (ay bu (ay bE (pv 0) aj) (ay dz (aM fI rfl M.dj cu (aa (pv 3) af)) aj))) (ah (aS (ar mw (ay bu (ay bE (pv 0) aj) aj) aj (az _)) (ao (aB (ay cw (pv 3) (aZ lW ai (ay bu (ay bE (pv 0) aj) aj) (λ_ _=>rfl))))) aC) (ao (aB (ay cw (ay cw (oi (pv 3) bH (bp (pv 4)) bH) (aZ lW (pv 2) (ay bu (ay bE (pv 0) aj) aj) (λ_ _=>rfl))) (oi (pv 3) (bp (pv 4)) bH bH)))))))))),?_⟩;try dsimp only[j6,L]
 refine WC ?_;intro _ _ _ _ _ _ _;refine⟨(dF rfl),λa I=>?_⟩;have m:=ak I (.lst (Cc.map V.str));have h1:(upd H a (.lst (Cc.map V.str))) a=some (.lst (Cc.map V.str)):=ag;show(λr=>_) (upd H a (.lst (Cc.map V.str)));generalize upd H a (.lst (Cc.map V.str))=r at m h1⊢;refine⟨_,rfl,_,_,rfl,rfl,(by show(0:Int)<2;decide),rfl,_,rfl,bz (λ_=>?_) (λ_=>?_)⟩;·obtain⟨k,b,v⟩:∃k:Nat,c/2%10=((k:Nat):Int)/\k<10:=⟨(c/2%10).toNat,by have :=Int.emod_nonneg (c/2) (show(10:Int)≠0 by decide);omega,by have :=Int.emod_lt_of_pos (c/2) (show(0:Int)<10 by decide);omega⟩;obtain⟨o,y⟩:∃o,Cc[k]?=some o:=⟨_,cN (show k<10 from v)⟩;exact⟨_,rfl,_,rfl,_,_,rfl,rfl,⟨by decide,by decide⟩,_,_,rfl,rfl,(by show(0:Int)<10;decide),a,_,_, .str o,rfl,rfl,bj.of h1,by rw[b];exact aG (by rw[fU,y];rfl),q o r m (Qr (List.all_eq_true.mp MN o (List.mem_of_getElem? y)))⟩
 refine⟨_,rfl,_,_,rfl,rfl,⟨by decide,by decide⟩,_,rfl,λz u s2 l=>?_⟩;obtain⟨S,T,U,W⟩:=g0 l;have R:z.length=z.cps.toList.length:=str_len z;refine⟨_,rfl,_,_,rfl,rfl,⟨by decide,by decide⟩,_,rfl,z,rfl,big (by omega),_,_,rfl,rfl,_,_,rfl,rfl,(by show(0:Int)<((z.length:Nat):Int)+1;omega),?_⟩;obtain⟨k,b,v⟩:∃k:Nat,c/2%(((z.length:Nat):Int)+1)=((k:Nat):Int)/\k<=z.length:=⟨(c/2%(((z.length:Nat):Int)+1)).toNat,by have :=Int.emod_nonneg (c/2) (show(((z.length:Nat):Int)+1)≠0 by omega);omega,by have :=Int.emod_lt_of_pos (c/2) (show(0:Int)<((z.length:Nat):Int)+1 by omega);omega⟩;show il 4 (V.int (c/2%(((z.length:Nat):Int)+1))) _ _ _;rw[b];have B:=m.trans s2;refine⟨_,rfl,_,_,rfl,rfl,⟨by decide,by decide⟩,_,_,rfl,rfl,(by show(0:Int)<3;decide),_,_,rfl,rfl,_,rfl,bz (λ_=>?_) (λ_=>?_)⟩;·obtain⟨x,d,n,p⟩:=PF Rx (j:=c/6%10) (Int.emod_nonneg _ (by decide)) (Int.emod_lt_of_pos _ (by decide));refine⟨_,rfl,_,rfl,_,_,rfl,rfl,⟨by decide,by decide⟩,_,_,rfl,rfl,(by show(0:Int)<10;decide),Zj,_,x,rfl,rfl,(by decide+kernel),d,_,_,rfl,rfl,big (by rw[one];omega),?_⟩;exact q _ u B (AD (z:=z) (w1:=z.cps.toList) (w2:=[]) (c:=x) l (by rw[jC]) (by rw[eY]) n p)
 ·obtain⟨x,d,n,p⟩:=PF Tf (j:=c/6%65) (Int.emod_nonneg _ (by decide)) (Int.emod_lt_of_pos _ (by decide));refine⟨_,rfl,_,rfl,(k:Int),rfl,_,rfl,big (by omega),rfl,λC e=>?_⟩;rw[CF]at e;have N:C.length<=12:=by rw[str_len,e,dU];omega
  refine⟨_,rfl,_,rfl,_,_,rfl,rfl,⟨by decide,by decide⟩,_,_,rfl,rfl,(by show(0:Int)<65;decide),sgB,_,x,rfl,rfl,(by decide+kernel),d,_,_,rfl,rfl,big (by rw[one];omega),?_⟩;refine⟨_,rfl,_,rfl,((k:Nat):Int),rfl,_,rfl,big (by omega),rfl,λF g=>?_⟩;rw[vX]at g;have O:F.length<=12:=by rw[str_len,g,dJ];omega
  refine⟨_,_,rfl,rfl,big (by rw[uZ,one];omega),?_⟩;refine q _ u B (AD (z:=z) (w1:=C.cps.toList) (w2:=F.cps.toList) (c:=x) l (by rw[jC,jC];simp) (by rw[e,g,List.take_append_drop]) n p)
def Ls(tx:TE)(σ:L2.St)(H0:Hp)(ws:List Str):Prop:=∀(H:Hp)(Q:VK),aD H0 H->(∀p H',H p=none->aD H H'->H' p=some (.lst (ws.map V.str))->Q (.ref p) H')->tx σ H Q
def Ec(tx:TE)(σ:L2.St)(H0:Hp)(v:V):Prop:=∀(H:Hp)(Q:VK),aD H0 H->Q v H->tx σ H Q
theorem Ls.cat{d e:TE}{σ:L2.St}{H0:Hp}{a b:List Str}(h1:Ls d σ H0 a)(h2:Ls e σ H0 b)(hl:a.length+b.length<=9000):Ls (fJ gE d e) σ H0 (a++b):=λH Q s q=>h1 H _ s λi f l s1 g=>h2 f _ (s.trans s1) λj k m s2 h=>by refine⟨i,j,_,_,rfl,rfl,s2 _ _ g,h,(by rw[sizeLine_eq,bT,bT];omega),λp c=>?_⟩;exact q p _ (s1.free (s2.free c)) (s1.trans (s2.trans (ak c _))) (by rw[List.map_append];exact ag)
section
variable{σ:L2.St}{H0:Hp}{lg:Addr}{ws:List Str}{j:Nat}
theorem Ls.to{tp:TE}{k:Nat}(c:σ[j]?=some (some (.ref lg)))(h:H0 lg=some (.lst (ws.map V.str)))(b:Ec tp σ H0 (.int (k:Nat))):Ls (NU (zC K) (bX j) gZ (kz tp)) σ H0 (ws.take k):=λH Q s q=>⟨_,c,b H _ s ⟨_,rfl,lg,_,rfl,bj.of (s _ _ h),λp a=>q p _ a (ak a _) (by rw[Mh,<-List.map_take];exact ag)⟩⟩
theorem Ls.rg{tp:TE}{k:Nat}(c:σ[j]?=some (some (.ref lg)))(h:H0 lg=some (.lst (ws.map V.str)))(b:Ec tp σ H0 (.int (k:Nat))):Ls (NU (zC K) (bX j) (kz tp) gZ) σ H0 (ws.drop k):=λH Q s q=>⟨_,c,b H _ s ⟨_,rfl,lg,_,rfl,bj.of (s _ _ h),λp a=>q p _ a (ak a _) (by rw[vV,<-List.map_drop];exact ag)⟩⟩
theorem CH(xs:List V)(a b:Nat)(h:a<=b)(hb:b<=xs.length):eG xs (some (a:Nat)) (some (b:Nat))=(xs.drop a).take (b-a):=by unfold eG;rw[HT.gu,HT.gu,Nat.min_eq_left hb,Nat.min_eq_left (show a<=xs.length by omega)]
theorem Ls.mid{d e:TE}{a b:Nat}(g:σ[j]?=some (some (.ref lg)))(h:H0 lg=some (.lst (ws.map V.str)))(h1:Ec d σ H0 (.int (a:Nat)))(h2:Ec e σ H0 (.int (b:Nat)))(f:a<=b)(hb:b<=ws.length):Ls (NU (zC K) (bX j) (kz d) (kz e)) σ H0 ((ws.drop a).take (b-a)):=λH Q s q=>⟨_,g,h1 H _ s ⟨_,rfl,h2 H _ s ⟨_,rfl,lg,_,rfl,bj.of (s _ _ h),λp c=>q p _ c (ak c _) (by rw[CH _ _ _ f (by rw[bT];exact hb),List.map_take,List.map_drop];exact ag)⟩⟩⟩
theorem Ls.one{b:TE}{y:Str}(h:Ec b σ H0 (.str y)):Ls (BQ (cP b iB)) σ H0 [y]:=λH Q s q=>h H _ s ⟨(dF rfl),λp a=>q p _ a (ak a _) ag⟩
theorem Ls.three{b c d:TE}{x y z:Str}(h1:Ec b σ H0 (.str x))(h2:Ec c σ H0 (.str y))(h3:Ec d σ H0 (.str z)):Ls (BQ (cP b (cP c (cP d iB)))) σ H0 [x,y,z]:=λH Q s q=>h1 H _ s (h2 H _ s (h3 H _ s ⟨(dF rfl),λp a=>q p _ a (ak a _) ag⟩))
theorem Ls.var(e:σ[j]?=some (some (.ref lg)))(h:H0 lg=some (.lst (ws.map V.str))){c:TE}{a:List Str}(h2:Ls c σ H0 a)(hl:ws.length+a.length<=9000):Ls (fJ gE (bX j) c) σ H0 (ws++a):=λH Q s q=>⟨_,e,h2 H _ s λf g i s2 d=>by refine⟨lg,f,_,_,rfl,rfl,s2 _ _ (s _ _ h),d,(by rw[sizeLine_eq,bT,bT];omega),λp b=>?_⟩;exact q p _ (s2.free b) (s2.trans (ak b _)) (by rw[List.map_append];exact ag)⟩
theorem Ls.go{a:TE}{Q:VK}(L:Ls a σ H0 ws)(k:∀p H',H0 p=none->aD H0 H'->H' p=some (.lst (ws.map V.str))->Q (.ref p) H'):a σ H0 Q:=L H0 Q (aD.refl H0) k
end
structure LL(ws iz:List Str):Prop where
 no:∀(names:List Str)(dd:Str),cg names dd iz=none
 ln:iz.length<=2*ws.length+4
 wd:∀y∈iz,(1<=y.length/\y.length<=16)/\bL y.cps.toList=[y.cps.toList]
structure Goo(ws:List Str):Prop where
 ok:wD ws.length ws=true
 nb:nB ws=0
 sw:sW ws+1=ws.length
 ln:ws.length<=900
 wd:∀y∈ws,(1<=y.length/\y.length<=16)/\bL y.cps.toList=[y.cps.toList]
def N_:Sp:=λvs H Q _=>∃(a:Addr)(ws:List Str)(k:Nat),vs=[.ref a, .int (k:Nat)]/\H a=some (.lst (ws.map V.str))/\Goo ws/\k<ws.length/\∀(r:Addr)(iz:List Str)(H':Hp),aD H H'->H' r=some (.lst (iz.map V.str))->LL ws iz->Q (.ref r) H'
theorem dv:aJ ["_law_told","_law_at","_law_over","_law_k","_law_binder"] ["_law_told","_law_at"] (aq eV):=⟨rfl,rfl,rfl,by decide+kernel,rfl,by decide+kernel,by decide+kernel⟩
theorem uX(D:Df K mg "_law_wrapped" eV ["_law_told","_law_at"])(M:Mg mg t):da P w K mg cR "_law_wrapped" (1) ["_law_told","_law_at"] N_:=by
 refine D.ok dv (λvs H Q E h=>?_) (λbase f cH A outer s H vs Q E hr h=>?_);·obtain⟨d,ws,k,rfl,_⟩:=h;rfl
 obtain⟨d,ws,k,rfl,ht,G,L,q⟩:=h;have hu:=IU hr;refine⟨_,(eB (aS (ar aN (aZ aP (pv 0) (pv 1) (λ_ _=>rfl)) ai (az _)) (ah (aE (i:=2) dv.nd rfl (dh rfl) aj) (ao (h_ PassesOwn.never rfl (vY rfl M.fE (aa (pv 1) (aa (aM aL rfl M.dj cu (aa (pv 0) af)) af))) (cL (i:=3) dv.nd rfl (dh rfl)) (ah (aE (i:=2) dv.nd rfl (dh rfl) (ay iO (ay dz (pv 2) (cQ lK rfl M.vC lN (aa (cM aN (aZ aP (pv 0) (pv 3) (λ_ _=>rfl)) ai (az _)) af))) (cQ lK rfl M.vC lN (aa (cM aN (aZ aP (pv 0) (pv 3) (λ_ _=>rfl)) ai (az _)) af)))) (ao (aS (ar aN (pv 2) aj (az _)) (ao (aB (ay cD (ay cD (ay cD (ay cD (bI cA (pv 0) bH (bp (pv 1))) (aT (aa ai af))) (bI cA (pv 0) (bp (pv 1)) (bp (ay dz (pv 3) aj)))) (aT (aa ai af))) (bI cA (pv 0) (bp (ay dz (pv 3) aj)) bH)))) aC)))))) aC) (eB (aE (i:=4) dv.nd rfl (dh rfl) (ua (cM (Br hu) (bI cA (pv 0) (bp (ay iO (pv 1) aj)) (bp (pv 1))) (aT af) (az _)) (tN (cM dX (aZ aP (pv 0) (ay iO (pv 1) aj) (λ_ _=>rfl)) (aT (aa ai (aa ai (aa ai (aa ai (aa ai af)))))) rfl)))) (ah (aS (L2.PW.pt (dN (ar aN (aZ aP (pv 0) (pv 1) (λ_ _=>rfl)) ai (az _)) (dN (ar (RB hu) (bI cA (pv 0) (bp (ay iO (pv 1) aj)) (bp (pv 1))) (aT (aa ai af)) (az _)) (dH (eF (pv 4)))))) (ao (aB (ay cD (pv 0) (aT (aa ai af))))) aC) (ao (aB (ay cD (ay cD (bI cA (pv 0) bH (bp (pv 1))) (aT (aa ai (aa (aZ aP (pv 0) (pv 1) (λ_ _=>rfl)) (aa ai af))))) (bI cA (pv 0) (bp (ay dz (pv 1) aj)) bH))))))),?_⟩;try dsimp only[j6,eC]
 obtain⟨y,C⟩:∃y,ws[k]?=some y:=⟨_,cN L⟩;have Z:(ws.map V.str)[k]?=some (.str y):=by rw[fU,C];rfl
 have gl:=G.ln;have split:ws=ws.take k++y::ws.drop (k+1):=by rw[cN L]at C;have :=AU L;rw[Option.some.inj C]at this;rw[<-this,List.take_append_drop]
 have ZO:∀{l:List Str},(∀z∈l,z∈ws\/z="("\/z=")")->∀z∈l,(1<=z.length/\z.length<=16)/\bL z.cps.toList=[z.cps.toList]:=λh z n=>by
  rcases h z n with e|rfl|rfl;·exact G.wd z e
  ·exact⟨⟨by decide+kernel,by decide+kernel⟩,by decide+kernel⟩
  ·exact⟨⟨by decide+kernel,by decide+kernel⟩,by decide+kernel⟩
 refine⟨λg H'=>∃o2 v,g=[some (.ref d),some (.int (k:Nat)),o2,v,none]/\aD H H',?_,?_⟩
 ·refine⟨_,rfl,_,rfl,d,_,_,_,rfl,rfl,bj.of ht,aG Z,rfl,_,rfl,bz (λc=>?_) (λ_=>⟨none,none,rfl,aD.refl _⟩)⟩;have c:V.str y=V.str "(":=of_decide_eq_true c;cases c;refine⟨_,rfl,_,rfl,d,_,rfl, .inl (bj.of ht),_,_,rfl,⟨by omega,by omega,by omega,by rw[bT];omega⟩,?_⟩;rw[bT];refine jG (((ws.length:Nat):Int)-((k:Nat):Int)).toNat (λj g H'=>∃(T:Int)(v:Option V),g=[some (.ref d),some (.int (k:Nat)),some (.int T),v,none]/\H'=H) ⟨0,none,rfl,rfl⟩ ?_ ?_
  ·rintro j g F hj⟨T,v,rfl,rfl⟩;refine⟨hj,?_⟩;rintro x' H1'⟨rfl,rfl⟩;obtain⟨z,n⟩:∃z,ws[k+j]?=some z:=⟨_,cN (by omega)⟩;have hvz:(ws.map V.str)[k+j]?=some (.str z):=by rw[fU,n];rfl
   have ekj:((k:Nat):Int)+((j:Nat):Int)=((k+j:Nat):Int):=by omega
   rw[ekj];refine⟨_,rfl,_,rfl,_,rfl,d,_,_,_,rfl,rfl,bj.of ht,aG hvz,rfl, .inr ⟨_,rfl,_,_,rfl,rfl,_,rfl,_,rfl,d,_,_,_,rfl,rfl,bj.of ht,aG hvz,rfl, .inr ⟨_,rfl,_,_,rfl,rfl,?_⟩⟩⟩;refine⟨_,rfl,rfl,_,rfl,bz (λ_=>?_) (λ_=>⟨_,_,rfl,rfl⟩)⟩;show(fJ gE _ _:TE) _ H1' _;have ek1:Ec (fJ (GJ λi j=>V.int (i+j)) (bX 3) (tC (V.int 1))) [some (.ref d),some (.int (k:Nat)),some (.int (T+(if decide (V.str z=V.str "(")=true then(1:Int)else 0)-(if decide (V.str z=V.str ")")=true then(1:Int)else 0))),some (.int ((k+j:Nat):Int)),none] H1' (.int ((k+j+1:Nat):Int)):=λH Q _ h=>⟨_,rfl,_,_,rfl,rfl,h⟩;refine Ls.go (ws:=ws.take k++[("(":Str)]++(ws.drop k).take (k+j+1-k)++[(")":Str)]++ws.drop (k+j+1)) (Ls.cat (Ls.cat (Ls.cat (Ls.cat (Ls.to (j:=0) rfl ht λH Q _ h=>⟨_,rfl,h⟩) (Ls.one λH Q _ h=>h) ?_) (Ls.mid (j:=0) rfl ht (λH Q _ h=>⟨_,rfl,h⟩) ek1 (by omega) (by omega)) ?_) (Ls.one λH Q _ h=>h) ?_) (Ls.rg (j:=0) rfl ht ek1) ?_) λp H' n' s' I=>q p _ H' s' I ⟨λnames dd=>?_,?_,ZO λz n=>?_⟩;·simp only[cx,dU,dJ,bD,dC];omega
   ·simp only[cx,dU,dJ,bD,dC];omega
   ·simp only[cx,dU,dJ,bD,dC];omega
   ·simp only[cx,dU,dJ,bD,dC];omega
   ·have ed:(ws.drop k).take (k+j+1-k)=("(":Str)::((ws.drop (k+1)).take j):=by
     have hd:ws.drop k=("(":Str)::ws.drop (k+1):=by rw[AU L];rw[cN L]at C;rw[Option.some.inj C]
     rw[hd,show k+j+1-k=j+1 by omega,List.take_succ_cons]
    rw[ed];have :=wW (names:=names) (dd:=dd) (a:=ws.take k) (x:="(") (c:=(ws.drop (k+1)).take j++(")":Str)::ws.drop (k+j+1)) z6.1;simpa using this
   ·simp only[cx,dU,dJ,bD,dC];omega
   ·simp only[List.mem_append,List.mem_singleton]at n;rcases n with(((h|h)|h)|h)|h;·exact .inl (uB h)
    ·exact .inr (.inl h)
    ·exact .inl (ud (uB h))
    ·exact .inr (.inr h)
    ·exact .inl (ud h)
  ·rintro g F⟨T,v,rfl,rfl⟩;exact⟨bB _,_,_,rfl,aD.refl _⟩
 rintro g F⟨o2,v,rfl,s1⟩;have WT:=s1 _ _ ht;obtain⟨pv,hpv,epv,lpv⟩:∃pv:List Str,eG (ws.map V.str) (some (((k:Nat):Int)-1)) (some ((k:Nat):Int))=pv.map V.str/\(pv=[("(":Str)]\/(ws.take k).getLast?≠some ("(":Str))/\(k=0->pv=[]):=by
  cases k with
   |zero=>exact⟨[],by unfold eG;simp[HT.cZ], .inr (by simp),λ_=>rfl⟩
   |succ m=>
    obtain⟨x,N⟩:∃x,ws[m]?=some x:=⟨_,cN (by omega)⟩;refine⟨[x],?_,?_,λz=>by cases z⟩;·rw[show(((m+1:Nat):Nat):Int)-1=((m:Nat):Int)by omega,CH _ _ _ (by omega) (by rw[bT];omega),show m+1-m=1 by omega];rw[AU (by rw[bT];omega),List.take_succ_cons,List.take_zero,List.getElem_map];rw[cN (by omega)]at N;rw[Option.some.inj N];rfl
    ·by_cases e:x="(";·exact .inl (by rw[e])
     ·refine .inr λz=>e ?_;rw[List.take_succ,N,Option.toList_some,List.getLast?_append]at z;simpa using z
 have fl:∀l:List Str,(l.map V.str).all gA=true:=λl=>by rw[List.all_map,List.all_eq_true];intro x _;rfl
 have ret:∀(r:Hp),aD H r->∀(g:L2.St),g[0]?=some (some (.ref d))->fJ gE (bX 0) (BQ (cP (tC (V.str "(")) iB)) g r Q:=λr s2 g h0=>Ls.go (ws:=ws++[("(":Str)]) (Ls.var (j:=0) h0 (s2 _ _ ht) (Ls.one λH Q _ h=>h) (by simp only[bD,dC];omega)) λp H' n' s' I=>q p _ H' (s2.trans s') I ⟨λnames dd=>Hk (a:=ws) (b:=[]) (by rw[eY];exact G.nb) (.inl rfl),by simp only[cx,bD,dC];omega,ZO λz n=>by
  rcases List.mem_append.mp n with h|h;·exact .inl h
  ·exact .inr (.inl (List.mem_singleton.mp h))⟩;refine⟨λg H'=>∃W:Bool,g=[some (.ref d),some (.int (k:Nat)),o2,v,some (.bl W)]/\aD H H',?_,?_⟩
 ·refine⟨_,rfl,_,rfl,_,_,rfl,rfl,_,rfl,_,rfl,_,rfl,d,_,rfl,bj.of WT,λo X=>?_⟩;have B:=s1.trans (ak X (.lst (eG (ws.map V.str) (some (((k:Nat):Int)-1)) (some ((k:Nat):Int)))));have J:(upd F o (.lst (eG (ws.map V.str) (some (((k:Nat):Int)-1)) (some ((k:Nat):Int))))) o=some (.lst (pv.map V.str)):=by rw[<-hpv];exact ag
  show(λR=>_) (upd F o (.lst (eG (ws.map V.str) (some (((k:Nat):Int)-1)) (some ((k:Nat):Int)))));generalize upd F o (.lst (eG (ws.map V.str) (some (((k:Nat):Int)-1)) (some ((k:Nat):Int))))=R at B J⊢;refine⟨(dF rfl),λU Y=>?_⟩;have u:=ak Y (.lst []);refine⟨o,U,_,_,rfl,rfl,bj.of (u _ _ J),bj.of ag,fl pv,rfl,_,rfl,bz (λc=>?_) (λc=>⟨_,rfl,B.trans u⟩)⟩;have kp:k≠0\/pv=[]:=by
   by_cases e:k=0;·exact .inr (lpv e)
   ·exact .inl e
  rcases kp with kp|kp
  ·obtain⟨m,rfl⟩:∃m,k=m+1:=⟨k-1,by omega⟩;obtain⟨x,N⟩:∃x,ws[m]?=some x:=⟨_,cN (by omega)⟩;have hvx:(ws.map V.str)[m]?=some (.str x):=by rw[fU,N];rfl
   refine⟨_,rfl,_,rfl,_,_,rfl,rfl,d,_,_,_,rfl,rfl,bj.of (u _ _ (B _ _ ht)),(by rw[show(((m+1:Nat):Nat):Int)-1=((m:Nat):Int)by omega];exact aG hvx),(dF rfl),λp3 e3=>?_⟩;exact⟨p3,(["all","some","fun","rec","carry"]:List Str).map V.str,rfl, .inl (bj.of ag),rfl,rfl,⟨_,rfl,B.trans (u.trans (ak e3 _))⟩⟩
  ·subst kp;exact absurd c (by decide)
 rintro g r⟨W,rfl,s2⟩;have QX:=s2 _ _ ht;refine⟨_,rfl,_,rfl,d,_,_,_,rfl,rfl,bj.of QX,aG Z,rfl,_,rfl,bz (λc=>bo (ret r s2 _ rfl)) (λc=>?_)⟩;refine⟨_,rfl,_,rfl,_,_,rfl,rfl,_,rfl,_,rfl,_,rfl,d,_,rfl,bj.of QX,λo X=>?_⟩;have B:=s2.trans (ak X (.lst (eG (ws.map V.str) (some (((k:Nat):Int)-1)) (some ((k:Nat):Int)))));have J:(upd r o (.lst (eG (ws.map V.str) (some (((k:Nat):Int)-1)) (some ((k:Nat):Int))))) o=some (.lst (pv.map V.str)):=by rw[<-hpv];exact ag
 show(λR=>_) (upd r o (.lst (eG (ws.map V.str) (some (((k:Nat):Int)-1)) (some ((k:Nat):Int)))));generalize upd r o (.lst (eG (ws.map V.str) (some (((k:Nat):Int)-1)) (some ((k:Nat):Int))))=R at B J⊢;refine⟨(dF rfl),λU Y=>?_⟩;have u:=ak Y (.lst [V.str "("]);have O:=B.trans u;refine⟨o,U,_,_,rfl,rfl,bj.of (u _ _ J),bj.of ag,fl pv,rfl,_,rfl,bz (λ_=>bo (ret _ O _ rfl)) (λc2=>?_)⟩;refine⟨_,rfl,W,rfl,bz (λ_=>ret _ O _ rfl) (λ_=>?_)⟩;have S:=O _ _ ht;generalize upd R U (.lst [V.str "("])=H4 at u O S⊢;show FR (fJ gE (fJ gE (NU (zC K) (bX 0) gZ (kz (bX 1))) _) _) _ _ H4;show(fJ gE _ _:TE) _ H4 _;refine Ls.go (ws:=ws.take k++[("(":Str),y,(")":Str)]++ws.drop (k+1)) (Ls.cat (Ls.cat (Ls.to (j:=0) rfl S λH Q _ h=>⟨_,rfl,h⟩) (Ls.three (λH Q _ h=>h) (λH Q s h=>⟨_,rfl,_,rfl,d,_,_,_,rfl,rfl,bj.of (s _ _ S),aG Z,h⟩) (λH Q _ h=>h)) ?_) (Ls.rg (j:=0) (k:=k+1) rfl S λH Q _ h=>⟨_,rfl,_,_,rfl,rfl,h⟩) ?_) λp H' n' s' I=>q p _ H' (O.trans s') I ⟨λnames dd=>?_,?_,ZO λz n=>?_⟩;·simp only[cx,dU,dJ,bD,dC];omega
 ·simp only[cx,dU,dJ,bD,dC];omega
 ·have key:cg names dd (ws.take k++("(":Str)::y::((")":Str)::ws.drop (k+1)))=none:=by
   by_cases yo:y="(";·rw[yo];exact wW z6.1
   ·have yc:y≠")":=λz=>c (decide_eq_true (by rw[z]));have hl:(ws.take k).getLast?≠some ("(":Str):=by
     rcases epv with h|h;·subst h;exact absurd (by kernel_rfl) c2
     ·exact h
    have ok:=G.ok;rw[split]at ok;exact LW ok ⟨yo,yc⟩ hl
  simpa using key
 ·simp only[cx,dU,dJ,bD,dC];omega
 ·simp only[List.mem_append,List.mem_cons,kh,or_false]at n;rcases n with(h|h|h|h)|h;·exact .inl (uB h)
  ·exact .inr (.inl h)
  ·exact .inl (h▸List.mem_of_getElem? C)
  ·exact .inr (.inr h)
  ·exact .inl (ud h)
end K54
end
section
namespace L3
open PySem PySem.Spec PyProof.Rows L2
end L3
end
section
namespace K54
open PySem L2 L3 KM PyProof.Rows
seal L2.PE L2.PS L2.jx L2.PT L2.PW L2.PA L2.PG L2.G0 L2.PI L2.PC L2.PO L2.G3 L2.PK L3.Ba L3.PH L3.PB
variable{P:Program}{w:World}{K:PySem.W.Frag}{mg:Str->Option Value}{base:Heap}{t:y_}
theorem Ls.two{σ:L2.St}{H0:Hp}{a:Addr}{ws:List Str}{j:Nat}(c:σ[j]?=some (some (.ref a)))(h:H0 a=some (.lst (ws.map V.str)))(hl:ws.length+ws.length<=9000):Ls (fJ gE (bX j) (bX j)) σ H0 (ws++ws):=λH Q s q=>⟨_,c,_,c,by refine⟨a,a,_,_,rfl,rfl,s _ _ h,s _ _ h,(by rw[sizeLine_eq,bT];omega),λp b=>?_⟩;exact q p _ b (ak b _) (by rw[List.map_append];exact ag)⟩
def Lp(tx:TE)(σ:L2.St)(H0:Hp)(Pr:List Str->Prop):Prop:=∀(H:Hp)(Q:VK),aD H0 H->(∀p ws H',Pr ws->H p=none->aD H H'->H' p=some (.lst (ws.map V.str))->Q (.ref p) H')->tx σ H Q
def Ep(tx:TE)(σ:L2.St)(H0:Hp)(Pr:Str->Prop):Prop:=∀(H:Hp)(Q:VK),aD H0 H->(∀y H',Pr y->aD H H'->Q (.str y) H')->tx σ H Q
theorem Ls.lp{tx:TE}{σ:L2.St}{H0:Hp}{ws:List Str}(h:Ls tx σ H0 ws):Lp tx σ H0 (λl=>l=ws):=λH Q s q=>h H Q s λp H' n s' e=>q p ws H' rfl n s' e
theorem Lp.one{b:TE}{σ:L2.St}{H0:Hp}{Pr:Str->Prop}(h:Ep b σ H0 Pr):Lp (BQ (cP b iB)) σ H0 (λl=>∃y,Pr y/\l=[y]):=λH Q s q=>h H _ s λy H' c s'=>⟨(dF rfl),λp a=>q p [y] _ ⟨y,c,rfl⟩ (s'.free a) (s'.trans (ak a _)) ag⟩
theorem Lp.cat{h i:TE}{σ:L2.St}{H0:Hp}{c d:List Str->Prop}(h1:Lp h σ H0 c)(h2:Lp i σ H0 d)(hl:∀a b,c a->d b->a.length+b.length<=9000):Lp (fJ gE h i) σ H0 (λl=>∃a b,c a/\d b/\l=a++b):=λH Q s q=>h1 H _ s λn f j a1 u s1 k=>h2 j _ (s.trans s1) λo g r a2 v s2 m=>by have :=hl f g a1 a2;refine⟨n,o,_,_,rfl,rfl,s2 _ _ k,m,(by rw[sizeLine_eq,bT,bT];omega),λp e=>?_⟩;exact q p _ _ ⟨f,g,a1,a2,rfl⟩ (s1.free (s2.free e)) (s1.trans (s2.trans (ak e _))) (by rw[List.map_append];exact ag)
theorem Lp.go{d:TE}{Q:VK}{σ:L2.St}{H0:Hp}{Pr:List Str->Prop}(L:Lp d σ H0 Pr)(k:∀p ws H',Pr ws->aD H0 H'->H' p=some (.lst (ws.map V.str))->Q (.ref p) H'):d σ H0 Q:=L H0 Q (aD.refl H0) λp ws H' a _ b c=>k p ws H' a b c
theorem tD{H:Hp}{c:Nat->Bool}:∀{l:List Nat}{vs:List V},bS H (l.filterMap λi=>if c i=true then some (D.int ((i+1:Nat):Int))else none) vs->vs=((l.filter c).map (·+1)).map λi=>V.int ((i:Nat):Int)|[],vs,h=>h|a::l,vs,h=>by rw[nV]at h;cases e:c a with|true=>rw[e]at h;obtain⟨v,r,rfl,h1,h2⟩:=h;rw[List.filter_cons,if_pos e,gQ,gQ,tD h2,show v=V.int ((a+1:Nat):Int)from h1]|false=>rw[e]at h;rw[List.filter_cons,if_neg (by rw[e];decide)];exact tD h
def A8:Sp:=λvs H Q _=>∃(a:Addr)(ws:List Str)(k:Nat)(b c:Int),vs=[.ref a, .int b, .int (k:Nat), .int c]/\H a=some (.lst (ws.map V.str))/\Goo ws/\k<ws.length/\∀(r:Addr)(iz:List Str)(H':Hp),aD H H'->H' r=some (.lst (iz.map V.str))->LL ws iz->Q (.ref r) H'
theorem gB:aJ ["_law_told","_law_way","_law_at","_law_cell","_law_spots"] ["_law_told","_law_way","_law_at","_law_cell"] (aq eh):=⟨rfl,rfl,rfl,by decide+kernel,rfl,by decide+kernel,by decide+kernel⟩
theorem xP(D:Df K mg "_law_spoilt" eh ["_law_told","_law_way","_law_at","_law_cell"])(M:Mg mg t)(uU:da P w K mg cR "_law_wrapped" (1) ["_law_told","_law_at"] N_)(vK:da P w K mg cR "_law_odd" (3) ["_law_cell"] OO):da P w K mg cR "_law_spoilt" (4) ["_law_told","_law_way","_law_at","_law_cell"] A8:=by
 refine D.ok gB (λvs H Q E h=>?_) (λbase f cH A outer s H vs Q E hr h=>?_);·obtain⟨u,ws,k,way,c,rfl,_⟩:=h;rfl
 obtain⟨u,ws,k,way,c,rfl,ht,G,Z,q⟩:=h;have hu:=IU hr;refine⟨_,(eB (aS (L2.PW.pt (dN (L2.PW.pt (iH (ar aN (pv 1) aj (az _)) (gf (ar dX (aZ aP (pv 0) (pv 2) (λ_ _=>rfl)) (aT (aa ai (aa ai af))) rfl)))) (dH (L2.PW.pt (iH (ar aN (pv 1) aj (az _)) (gf (ar kl (aZ aP (pv 0) (pv 2) (λ_ _=>rfl)) (aT (aa ai (aa ai af))) rfl))))))) (ao (aB (ay cD (bI cA (pv 0) bH (bp (pv 2))) (bI cA (pv 0) (bp (ay dz (pv 2) aj)) bH)))) aC) (eB (aS (ar aN (pv 1) aj (az _)) (ao (aB (ay cD (ay cD (bI cA (pv 0) bH (bp (pv 2))) (aT (aa (aZ aP (aT (aa ai (aa ai af))) (ay bu (pv 3) aj) (λ_ _=>rfl)) af))) (bI cA (pv 0) (bp (pv 2)) bH)))) aC) (eB (aS (L2.PW.pt (iH (ar aN (pv 1) aj (az _)) (gf (ar aN (aZ aP (pv 0) (pv 2) (λ_ _=>rfl)) ai (az _))))) (ao (aB (ay cD (ay cD (bI cA (pv 0) bH (bp (pv 2))) (aT (aa ai af))) (bI cA (pv 0) (bp (pv 2)) bH)))) aC) (eB (aS (ar aN (pv 1) aj (az _)) (ao (aB (ay cD (pv 0) (pv 0)))) aC) (eB (aS (ar aN (pv 1) aj (az _)) (ao (aB (bA uU hr.m rfl bh (aa (pv 0) (aa (pv 2) af))))) aC) (eB (aS (ar aN (pv 1) aj (az _)) (ao (aB (aT af))) aC) (eB (aS (L2.PW.pt (iH (ar aN (pv 1) aj (az _)) (gf (ar kl (aZ aP (pv 0) (pv 2) (λ_ _=>rfl)) (aT (aa ai (aa ai af))) rfl)))) (ao (aB (ay cD (ay cD (bI cA (pv 0) bH (bp (pv 2))) (aT (aa (bA vK hr.m rfl bh (aa (pv 3) af)) af))) (bI cA (pv 0) (bp (ay dz (pv 2) aj)) bH)))) aC) (eB (Cn (ix:=4) (N':=["_law_k","_law_told"]) (own:=1) (fr:=[0]) gB.nd rfl rfl rfl (jF (N:=["_law_told","_law_way","_law_at","_law_cell","_law_spots"]) (sc:=aq eh) rfl rfl rfl (by decide+kernel)) (vY rfl M.fE (aa aj (aa (aM aL rfl M.dj cu (aa (pv 0) af)) af))) (fW (by decide)) (λ_ _ _=>(cL (i:=0) (show List.Nodup (["_law_k","_law_told"]:List Str)by decide+kernel) rfl (Or.inl rfl))) (λ_ _ _=>(yG (L2.PW.pt (iH (ar aN (aZ (A0 (K:=K)) (pv 1) (ay iO (pv 0) aj) (λ_ _=>rfl)) ai (az _)) (gf (ar (BL (K:=K)) (aZ (A0 (K:=K)) (pv 1) (pv 0) (λ_ _=>rfl)) (aT (aa ai (aa ai (aa ai (aa ai (aa ai af)))))) rfl)))))) (λ_ _ _=>(pv 0))) (eB (aS (L2.PW.pt (iH (ar aN (pv 1) aj (az _)) (gf (ar (Br hu) (pv 4) (aT af) (az _))))) (ah (aE (i:=2) gB.nd rfl (dh rfl) (aZ aP (pv 4) (ay bu (pv 2) (aM aL rfl M.dj cu (aa (pv 4) af))) (λ_ _=>rfl))) (ao (aB (ay cD (ay cD (bI cA (pv 0) bH (bp (ay dz (pv 2) aj))) (aT (aa (aZ aP (aT (aa ai (aa ai (aa ai (aa ai (aa ai (aa ai (aa (bA vK hr.m rfl bh (aa (ay bE (pv 3) aj) af)) af)))))))) (ay bu (pv 3) aj) (λ_ _=>rfl)) af))) (bI cA (pv 0) (bp (ay dz (pv 2) aj)) bH))))) aC) (ao (aB (ay cD (pv 0) (aT (aa ai af)))))))))))))),?_⟩;try dsimp only[j6,eC]
 obtain⟨y,hy⟩:∃y,ws[k]?=some y:=⟨_,cN Z⟩;have Np:(ws.map V.str)[k]?=some (.str y):=by rw[fU,hy];rfl
 have gl:=G.ln;have split:ws=ws.take k++y::ws.drop (k+1):=by rw[cN Z]at hy;have :=AU Z;rw[Option.some.inj hy]at this;rw[<-this,List.take_append_drop]
 have hdr:ws.drop k=y::ws.drop (k+1):=by rw[cN Z]at hy;rw[AU Z,Option.some.inj hy]
 have wB:∀{z:Str},z∈(["(",")","0","nat","zero","same","all"]:List Str)->(1<=z.length/\z.length<=16)/\bL z.cps.toList=[z.cps.toList]:=λ{z}h=>by simp only[List.mem_cons,kh,or_false]at h;rcases h with rfl|rfl|rfl|rfl|rfl|rfl|rfl<;>exact⟨⟨by decide+kernel,by decide+kernel⟩,by decide+kernel⟩
 have fin:∀(iz:List Str)(te:TE)(g:L2.St)(n:Hp),aD H n->Ls te g n iz->LL ws iz->te g n Q:=λiz te g n s2 L S=>Ls.go L λp H' n' s' I=>q p iz H' (s2.trans s') I S;have aaI:LL ws (ws.take k++ws.drop (k+1)):=by
  have ok:=G.ok;have nb:=G.nb;have sw:=G.sw;rw[split]at ok nb sw;refine⟨λnames dd=>?_,?_,λz d=>?_⟩
  ·by_cases b:y="("\/y=")";·exact Td nb b
   ·exact Ms ok sw ⟨λz=>b (.inl z),λz=>b (.inr z)⟩
  ·simp only[cx,dU,dJ];omega
  ·rcases List.mem_append.mp d with h|h;·exact G.wd z (uB h)
   ·exact G.wd z (ud h)
 have sIn:∀x:Str,(x="("\/x=")")->LL ws (ws.take k++[x]++ws.drop k):=λx X=>by
  refine⟨λnames dd=>?_,?_,λz d=>?_⟩;·have :=Hk (names:=names) (dd:=dd) (a:=ws.take k) (b:=ws.drop k) (z:=x) (by rw[List.take_append_drop];exact G.nb) X;simpa using this
  ·simp only[cx,dU,dJ,bD,dC];omega
  ·simp only[List.mem_append,List.mem_singleton]at d;rcases d with(h|h)|h;·exact G.wd z (uB h)
   ·subst h;rcases X with rfl|rfl<;>exact wB (by simp)
   ·exact G.wd z (ud h)
 have aaB:LL ws (ws++[(")":Str)]):=by
  refine⟨λnames dd=>Hk (a:=ws) (b:=[]) (by rw[eY];exact G.nb) (.inr rfl),by simp only[cx,bD,dC];omega,λz d=>?_⟩;rcases List.mem_append.mp d with h|h;·exact G.wd z h
  ·rw[List.mem_singleton.mp h];exact wB (by simp)
 have aaf:LL ws (ws++ws):=⟨λnames dd=>R8 G.ok G.sw,by rw[cx];omega,λz d=>(List.mem_append.mp d).elim (G.wd z) (G.wd z)⟩;have aaK:LL ws []:=⟨λnames dd=>Tu,fV _,λz d=>by cases d⟩;have WO:y=")"->LL ws (ws.take k++[("0":Str)]++ws.drop k):=λe=>by
  have sw:=G.sw;rw[split,e]at sw;refine⟨λnames dd=>?_,?_,λz d=>?_⟩;·have :=MR (names:=names) (dd:=dd) sw;rw[hdr,e];simpa using this
  ·simp only[cx,dU,dJ,bD,dC];omega
  ·simp only[List.mem_append,List.mem_singleton]at d;rcases d with(h|h)|h;·exact G.wd z (uB h)
   ·subst h;exact wB (by simp)
   ·exact G.wd z (ud h)
 have ZD:∀o:Str,Lc o->LL ws (ws.take k++[o]++ws.drop (k+1)):=λo v=>by
  refine⟨λnames dd=>?_,?_,λz d=>?_⟩;·have :=QK (names:=names) (dd:=dd) (a:=ws.take k) (b:=ws.drop (k+1)) v.bd;simpa using this
  ·simp only[cx,dU,dJ,bD,dC];omega
  ·simp only[List.mem_append,List.mem_singleton]at d;rcases d with(h|h)|h;·exact G.wd z (uB h)
   ·subst h;exact⟨⟨v.l1,dI v.l2 (by decide)⟩,v.wd⟩
   ·exact G.wd z (ud h)
 let U:L2.St->Hp->Prop:=λg H'=>g=[some (.ref u),some (.int way),some (.int (k:Nat)),some (.int c),none]/\aD H H';have QG:∀(g:L2.St)(n:Hp),g[0]?=some (some (.ref u))->g[2]?=some (some (.int (k:Nat)))->aD H n->fJ gE (NU (zC K) (bX 0) gZ (kz (bX 2))) (NU (zC K) (bX 0) (kz (fJ (GJ λi j=>V.int (i+j)) (bX 2) (tC (V.int 1)))) gZ) g n Q:=λg n h0 h2 s2=>fin _ _ g n s2 (Ls.cat (Ls.to (j:=0) h0 (s2 _ _ ht) λH Q _ h=>⟨_,h2,h⟩) (Ls.rg (j:=0) (k:=k+1) h0 (s2 _ _ ht) λH Q _ h=>⟨_,h2,_,_,rfl,rfl,h⟩) (by simp only[dU,dJ];omega)) aaI;refine⟨U,?_,?_⟩
 ·refine⟨_,rfl,rfl,_,rfl,bz (λ_=>?_) (λ_=>?_)⟩;·refine⟨_,rfl,_,rfl,u,_,_,_,rfl,rfl,bj.of ht,aG Np,(dF rfl),λJ W=>⟨J,(["(",")"]:List Str).map V.str,rfl, .inl (bj.of ag),rfl,rfl,_,rfl,?_⟩⟩;have l:=ak W (.lst [V.str "(", .str ")"]);refine bz (λ_=>bo (QG _ _ rfl rfl l)) (λ_=>?_);show(λn=>_) (upd H J (.lst [V.str "(", .str ")"]));generalize upd H J (.lst [V.str "(", .str ")"])=n at l⊢;refine⟨_,rfl,rfl,_,rfl,bz (λ_=>?_) (λ_=>⟨rfl,l⟩)⟩;exact⟨_,rfl,_,rfl,u,_,_,_,rfl,rfl,bj.of (l _ _ ht),aG Np,(dF rfl),λp2 e2=>⟨p2,(["(",")"]:List Str).map V.str,rfl, .inl (bj.of ag),rfl,rfl,_,rfl,bz (λ_=>QG _ _ rfl rfl (l.trans (ak e2 _))) (λ_=>⟨rfl,l.trans (ak e2 _)⟩)⟩⟩
  ·refine⟨_,rfl,rfl,_,rfl,bz (λ_=>?_) (λ_=>⟨rfl,aD.refl _⟩)⟩;exact⟨_,rfl,_,rfl,u,_,_,_,rfl,rfl,bj.of ht,aG Np,(dF rfl),λJ W=>⟨J,(["(",")"]:List Str).map V.str,rfl, .inl (bj.of ag),rfl,rfl,_,rfl,bz (λ_=>QG _ _ rfl rfl (ak W _)) (λ_=>⟨rfl,ak W _⟩)⟩⟩
 rintro g H1⟨rfl,s1⟩;have WT:=s1 _ _ ht;refine⟨U,?_,?_⟩
 ·refine⟨_,rfl,rfl,_,rfl,bz (λ_=>?_) (λ_=>⟨rfl,s1⟩)⟩;show(fJ gE _ _:TE) _ H1 _;obtain⟨x,X,hxx⟩:∃x:Str,zj [V.str "(", .str ")"] (c%2)=some (.str x)/\(x="("\/x=")"):=by
   have B:=Int.emod_nonneg c (show(2:Int)≠0 by decide);have c1:=Int.emod_lt_of_pos c (show(0:Int)<2 by decide);have :c%2=0\/c%2=1:=by omega
   rcases this with z|z<;>rw[z];·exact⟨"(",rfl, .inl rfl⟩
   ·exact⟨")",rfl, .inr rfl⟩
  refine Lp.go (Lp.cat (Lp.cat (Ls.lp (Ls.to (j:=0) rfl WT λH Q _ h=>⟨_,rfl,h⟩)) (Lp.one (Pr:=λz=>z=x) λH Q s q=>⟨(dF rfl),λp C=>⟨_,rfl,_,_,rfl,rfl,(by show(0:Int)<2;decide),p,_,_,_,rfl,rfl,bj.of ag,X,q x _ rfl (ak C _)⟩⟩) ?_) (Ls.lp (Ls.rg (j:=0) rfl WT λH Q _ h=>⟨_,rfl,h⟩)) ?_) λp iz H' C s' I=>?_;·rintro a b rfl⟨z,rfl,rfl⟩;simp only[dU,bD,dC];omega
  ·rintro a b⟨a1,b1,rfl,⟨z,rfl,rfl⟩,rfl⟩rfl;simp only[cx,dU,dJ,bD,dC];omega
  ·obtain⟨_,_,⟨_,_,rfl,⟨_,rfl,rfl⟩,rfl⟩,rfl,rfl⟩:=C;exact q p _ H' (s1.trans s') I (sIn _ hxx)
 rintro g n⟨rfl,s2⟩;have QX:=s2 _ _ ht;clear s1 WT;refine⟨U,?_,?_⟩
 ·refine⟨_,rfl,rfl,_,rfl,bz (λ_=>?_) (λ_=>⟨rfl,s2⟩)⟩;refine⟨_,rfl,_,rfl,u,_,_,_,rfl,rfl,bj.of QX,aG Np,rfl,_,rfl,bz (λcy=>?_) (λ_=>⟨rfl,s2⟩)⟩;have cy:V.str y=V.str ")":=of_decide_eq_true cy;have ey:y=")":=by injection cy
  show(fJ gE _ _:TE) _ n _;exact fin _ _ _ n s2 (Ls.cat (Ls.cat (Ls.to (j:=0) rfl QX λH Q _ h=>⟨_,rfl,h⟩) (Ls.one λH Q _ h=>h) (by simp only[dU,bD,dC];omega)) (Ls.rg (j:=0) rfl QX λH Q _ h=>⟨_,rfl,h⟩) (by simp only[cx,dU,dJ,bD,dC];omega)) (WO ey)
 rintro g H3⟨rfl,s3⟩;have R6:=s3 _ _ ht;clear s2 QX;refine⟨U,?_,?_⟩;·refine⟨_,rfl,rfl,_,rfl,bz (λ_=>?_) (λ_=>⟨rfl,s3⟩)⟩;show(fJ gE _ _:TE) _ H3 _;exact fin _ _ _ H3 s3 (Ls.two (j:=0) rfl R6 (by omega)) aaf
 rintro g H4⟨rfl,O⟩;have ht4:=O _ _ ht;clear s3 R6;refine⟨U,?_,?_⟩;·refine⟨_,rfl,rfl,_,rfl,bz (λ_=>?_) (λ_=>⟨rfl,O⟩)⟩;exact⟨_,rfl,_,rfl,u,ws,k,rfl,ht4,G,Z,λr iz H' s' I S=>q r iz H' (O.trans s') I S⟩
 rintro g H5⟨rfl,s5⟩;have Y9:=s5 _ _ ht;clear O ht4;refine⟨U,?_,?_⟩;·refine⟨_,rfl,rfl,_,rfl,bz (λ_=>?_) (λ_=>⟨rfl,s5⟩)⟩;exact⟨(dF rfl),λp C=>q p [] _ (s5.trans (ak C _)) ag aaK⟩
 rintro g H6⟨rfl,s6⟩;have ht6:=s6 _ _ ht;clear s5 Y9;refine⟨U,?_,?_⟩
 ·refine⟨_,rfl,rfl,_,rfl,bz (λ_=>?_) (λ_=>⟨rfl,s6⟩)⟩;refine⟨_,rfl,_,rfl,u,_,_,_,rfl,rfl,bj.of ht6,aG Np,(dF rfl),λJ W=>⟨J,(["(",")"]:List Str).map V.str,rfl, .inl (bj.of ag),rfl,rfl,_,rfl,bz (λ_=>?_) (λ_=>⟨rfl,s6.trans (ak W _)⟩)⟩⟩;have l:=s6.trans (ak W (.lst [V.str "(", .str ")"]));have Zu:=l _ _ ht;show(λH7=>_) (upd H6 J (.lst [V.str "(", .str ")"]));generalize upd H6 J (.lst [V.str "(", .str ")"])=H7 at l Zu⊢;show(fJ gE _ _:TE) _ H7 _;refine Lp.go (Lp.cat (Lp.cat (Ls.lp (Ls.to (j:=0) rfl Zu λH Q _ h=>⟨_,rfl,h⟩)) (Lp.one (Pr:=Lc) λH Q s q=>⟨_,rfl,c,rfl,λo H' s' v=>q o H' v s'⟩) ?_) (Ls.lp (Ls.rg (j:=0) (k:=k+1) rfl Zu λH Q _ h=>⟨_,rfl,_,_,rfl,rfl,h⟩)) ?_) λp iz H' C s' I=>?_;·rintro a b rfl⟨z,_,rfl⟩;simp only[dU,bD,dC];omega
  ·rintro a b⟨a1,b1,rfl,⟨z,_,rfl⟩,rfl⟩rfl;simp only[cx,dU,dJ,bD,dC];omega
  ·obtain⟨_,_,⟨_,_,rfl,⟨o,v,rfl⟩,rfl⟩,rfl,rfl⟩:=C;exact q p _ H' (l.trans s') I (ZD o v)
 rintro g H7⟨rfl,s7⟩;have ht7:=s7 _ _ ht;clear s6 ht6;let Xf:Nat->Bool:=λi=>decide (ws[i]?=some ("(":Str))&&(match ws[i+1]? with|some x=>decide (x∈(["all","some","fun","rec","carry"]:List Str))|none=>false);refine⟨λg H'=>∃(ps:Addr)(F:List Nat),g=[some (.ref u),some (.int way),some (.int (k:Nat)),some (.int c),some (.ref ps)]/\aD H H'/\H' ps=some (.lst (F.map λi=>V.int ((i:Nat):Int)))/\∀i∈F,∃m,i=m+1/\Xf m=true,?_,?_⟩
 ·refine⟨_,rfl,u,_,rfl, .inl (bj.of ht7),1,((ws.length:Nat):Int),(by rw[bT]),⟨by omega,by omega,by omega,by omega⟩,λpc hpc=>?_⟩;have hn:(((ws.length:Nat):Int)-1).toNat=ws.length-1:=by omega
  rw[hn];refine Gh (ws.length-1) (λi=>if Xf i=true then some (.int ((i+1:Nat):Int))else none) hpc (by rw[sizeLine_eq];omega) (λi H4 hi O=>⟨hi,?_⟩) λvs H4 O h4 r4=>⟨bB _,?_⟩
  ·rintro x H5⟨rfl,rfl⟩R R0 hR YY;obtain⟨z0,V0⟩:∃z,ws[i]?=some z:=⟨_,cN (by omega)⟩;obtain⟨T,hz1⟩:∃z,ws[i+1]?=some z:=⟨_,cN (by omega)⟩;have hv0:(ws.map V.str)[i]?=some (.str z0):=by rw[fU,V0];rfl
   have hv1:(ws.map V.str)[i+1]?=some (.str T):=by rw[fU,hz1];rfl
   have Y9:=O _ _ ht7;have eo:Xf i=(decide (z0="(")&&decide (T∈(["all","some","fun","rec","carry"]:List Str))):=by show(decide (ws[i]?=some ("(":Str))&&(match ws[i+1]? with|some x=>decide (x∈(["all","some","fun","rec","carry"]:List Str))|none=>false))=_;rw[V0,hz1];simp
   refine⟨_,rfl,_,rfl,_,_,rfl,rfl,u,_,_,_,rfl,rfl,bj.of Y9,(by rw[show(1:Int)+(i:Int)-1=((i:Nat):Int)by omega];exact aG hv0),rfl,_,rfl,bz (λB=>?_) (λB=>?_)⟩
   ·have B:V.str z0=V.str "(":=of_decide_eq_true B;have B:z0="(":=by injection B
    refine⟨_,rfl,_,rfl,u,_,_,_,rfl,rfl,bj.of Y9,(by rw[show(1:Int)+(i:Int)=((i+1:Nat):Int)by omega];exact aG hv1),(dF rfl),λp3 e3=>⟨p3,(["all","some","fun","rec","carry"]:List Str).map V.str,rfl, .inl (bj.of ag),rfl,rfl,_,rfl,?_⟩⟩;show if(Ph (.str T) ((["all","some","fun","rec","carry"]:List Str).map V.str))=true then _ else _;rw[show Ph (.str T) ((["all","some","fun","rec","carry"]:List Str).map V.str)=decide (T∈(["all","some","fun","rec","carry"]:List Str))from gF T _];refine bz (λc1=>⟨_,rfl,hR _ _ _ (if_pos (by rw[eo,decide_eq_true B,c1];rfl)) (ak e3 _) (by show V.int _=V.int _;congr 1;omega)⟩) (λc1=>YY _ (if_neg (by rw[eo,Bool.eq_false_iff.mpr c1,Bool.and_false];decide)) (ak e3 _))
   ·have B:z0≠"(":=λz=>B (decide_eq_true (by rw[z]));exact YY _ (if_neg (by rw[eo,decide_eq_false B,Bool.false_and];decide)) (aD.refl _)
  ·refine⟨pc,((List.range (ws.length-1)).filter Xf).map (·+1),rfl,s7.trans O,?_,λi hi=>?_⟩;·rw[h4,tD (c:=Xf) r4]
   ·obtain⟨m,hm,rfl⟩:=List.mem_map.mp hi;exact⟨m,rfl,(List.mem_filter.mp hm).2⟩
 rintro g H8⟨ps,F,rfl,s8,M5,hks⟩;have ht8:=s8 _ _ ht;refine⟨λg H'=>∃ps,g=[some (.ref u),some (.int way),some (.int (k:Nat)),some (.int c),some (.ref ps)]/\aD H H',?_,?_⟩
 ·refine⟨_,rfl,rfl,_,rfl,bz (λ_=>?_) (λ_=>⟨ps,rfl,s8⟩)⟩;refine⟨_,rfl,(dF rfl),λpe hpe=>?_⟩;have l:=s8.trans (ak hpe (.lst []));have M0:=(ak hpe (.lst [])) _ _ M5;refine⟨ps,pe,_,_,rfl,rfl,bj.of M0,bj.of ag,?_,rfl,_,rfl,bz (λcn=>?_) (λ_=>⟨ps,rfl,l⟩)⟩;·rw[List.all_map,List.all_eq_true];intro x _;rfl
  have kne:0<F.length:=by cases F with|nil=>exact absurd cn (by decide)|cons _ _=>simp
  have ht9:=l _ _ ht;generalize upd H8 pe (.lst [])=Y at l M0 ht9⊢;obtain⟨r,hr,hrl⟩:∃r:Nat,((k:Nat):Int)%((F.length:Nat):Int)=((r:Nat):Int)/\r<F.length:=⟨k%F.length,rfl,Nat.mod_lt _ kne⟩;obtain⟨i,hi⟩:∃i,F[r]?=some i:=⟨_,cN hrl⟩;obtain⟨m,rfl,hm⟩:=hks i (List.mem_of_getElem? hi);have hm:(decide (ws[m]?=some ("(":Str))&&(match ws[m+1]? with|some x=>decide (x∈(["all","some","fun","rec","carry"]:List Str))|none=>false))=true:=hm;rw[bW]at hm;have hm0:=of_decide_eq_true hm.1;obtain⟨x,X,hxb⟩:∃x,ws[m+1]?=some x/\x∈(["all","some","fun","rec","carry"]:List Str):=by cases e:ws[m+1]? with|none=>rw[e]at hm;exact absurd hm.2 (by decide)|some x=>rw[e]at hm;exact⟨x,rfl,of_decide_eq_true hm.2⟩
  have hxi:jk x BO=true:=by simp only[List.mem_cons,kh,or_false]at hxb;rcases hxb with rfl|rfl|rfl|rfl|rfl<;>kernel_rfl
  have Kq:m+1<ws.length:=(List.getElem?_eq_some_iff.mp X).1;have etk:ws.take (m+2)=ws.take m++[("(":Str),x]:=by rw[List.take_succ,List.take_succ,hm0,X];simp
  refine⟨_,rfl,_,rfl,_,rfl,ps,_,rfl, .inl (bj.of M0),_,_,rfl,rfl,(by rw[bT];show(0:Int)<((F.length:Nat):Int);omega),ps,_,_, .int ((m+1:Nat):Int),rfl,rfl,bj.of M0,(by rw[bT,hr];exact aG (by rw[fU,hi];rfl)),?_⟩;show FR (fJ gE (fJ gE (NU (zC K) (bX 0) gZ (kz (fJ (GJ λi j=>V.int (i+j)) (bX 2) (tC (V.int 1))))) _) _) _ _ Y;show(fJ gE _ _:TE) _ Y _;have nm6:((["nat","zero","same","all","0","("]:List Str).all λz=>!cG (.str z))=true:=by kernel_rfl
  refine Lp.go (Lp.cat (Lp.cat (Ls.lp (Ls.to (j:=0) (k:=m+2) rfl ht9 λH Q _ h=>⟨_,rfl,_,_,rfl,rfl,h⟩)) (Lp.one (Pr:=λz=>cG (.str z)=false/\(1<=z.length/\z.length<=16)/\bL z.cps.toList=[z.cps.toList]) λH Q s q=>⟨_,rfl,_,_,rfl,rfl,⟨by decide,by decide⟩,c/8,rfl,λo H' s' v=>⟨(dF rfl),λp C=>?_⟩⟩) ?_) (Ls.lp (Ls.rg (j:=0) (k:=m+3) rfl ht9 λH Q _ h=>⟨_,rfl,_,_,rfl,rfl,h⟩)) ?_) λp iz H' C s' I=>?_
  ·obtain⟨z,d,T,z2⟩:∃z:Str,zj [V.str "nat", .str "zero", .str "same", .str "all", .str "0", .str "(", .str o] (c%7)=some (.str z)/\cG (.str z)=false/\(1<=z.length/\z.length<=16)/\bL z.cps.toList=[z.cps.toList]:=by
    have B:=Int.emod_nonneg c (show(7:Int)≠0 by decide);have c1:=Int.emod_lt_of_pos c (show(0:Int)<7 by decide);have six:∀z:Str,z∈(["nat","zero","same","all","0","("]:List Str)->cG (.str z)=false/\(1<=z.length/\z.length<=16)/\bL z.cps.toList=[z.cps.toList]:=λz d=>⟨by simpa using List.all_eq_true.mp nm6 z d,wB (by simp only[List.mem_cons,kh,or_false]at d⊢;rcases d with h|h|h|h|h|h<;>simp[h])⟩;have :c%7=0\/c%7=1\/c%7=2\/c%7=3\/c%7=4\/c%7=5\/c%7=6:=by omega
    rcases this with z|z|z|z|z|z|z<;>rw[z];·exact⟨"nat",rfl,six _ (by simp)⟩
    ·exact⟨"zero",rfl,six _ (by simp)⟩
    ·exact⟨"same",rfl,six _ (by simp)⟩
    ·exact⟨"all",rfl,six _ (by simp)⟩
    ·exact⟨"0",rfl,six _ (by simp)⟩
    ·exact⟨"(",rfl,six _ (by simp)⟩
    ·exact⟨o,rfl,v.bd.nm,⟨v.l1,dI v.l2 (by decide)⟩,v.wd⟩
   exact⟨_,rfl,_,_,rfl,rfl,(by show(0:Int)<7;decide),p,_,_, .str z,rfl,rfl,bj.of ag,d,q z _ ⟨T,z2⟩ (s'.trans (ak C _))⟩
  ·rintro a b rfl⟨z,_,rfl⟩;simp only[dU,bD,dC];omega
  ·rintro a b⟨a1,b1,rfl,⟨z,_,rfl⟩,rfl⟩rfl;simp only[cx,dU,dJ,bD,dC];omega
  ·obtain⟨_,_,⟨_,_,rfl,⟨o,⟨ho1,LN⟩,rfl⟩,rfl⟩,rfl,rfl⟩:=C;refine q p _ H' (l.trans s') I ⟨λnames dd=>?_,?_,λz d=>?_⟩;·rw[etk];have :=Nf (names:=names) (dd:=dd) (a:=ws.take m) (b:=ws.drop (m+3)) hxi ho1;simpa using this
   ·simp only[cx,dU,dJ,bD,dC];omega
   ·simp only[List.mem_append,List.mem_singleton]at d;rcases d with(h|h)|h;·exact G.wd z (uB h)
    ·subst h;exact LN
    ·exact G.wd z (ud h)
 rintro g Y⟨ps,rfl,s9⟩;show FR (fJ gE (bX 0) (BQ (cP (tC (V.str ")")) iB))) _ _ Y;show(fJ gE _ _:TE) _ Y _;exact fin _ _ _ Y s9 (Ls.var (j:=0) rfl (s9 _ _ ht) (Ls.one λH Q _ h=>h) (by simp only[bD,dC];omega)) aaB
theorem En{P:Str->Prop}:∀{vs:List V},(∀(i:Nat)(z:V),vs[i]?=some z->∃y:Str,z= .str y/\P y)->∃ys:List Str,vs=ys.map V.str/\∀y∈ys,P y|[],_=>⟨[],rfl,λy h=>absurd h (by simp)⟩|v::vs,h=>by obtain⟨y,rfl,c⟩:=h 0 v rfl;obtain⟨ys,rfl,a⟩:=En (vs:=vs) λi z e=>h (i+1) z e;exact⟨y::ys,rfl,λx b=>(List.mem_cons.mp b).elim (λe=>e▸c) (a x)⟩
theorem G9{names:List Str}{k:Bool}{d:D}{ws:List Str}{dd:Str}(G:GF names k d ws)(a:k=decide (dd="kind")):cg names dd ws=some d:=by have h:=G.rd names (uS dd) [] {uS dd with parts:=[d]} [] rfl (tk (dd:=dd) (by rfl) (by rw[G.kd,a]));rw[eY]at h;unfold cg;show outD (K54.rd names ws [uS dd])=_;rw[h];rfl
theorem gM{H H':Hp}{a:Addr}{xs:List V}(h:bj K H a xs)(s:aD H H'):bj K H' a xs:=by
 rcases h with(h|⟨o,h⟩)|h;·exact .inl (.inl (s _ _ h))
 ·exact .inl (.inr ⟨o,s _ _ h⟩)
 ·exact .inr h
def EJ(K:PySem.W.Frag):Sp:=λvs H Q _=>∃(a:Addr)(ns:List Int),vs=[.ref a]/\bj K H a (ns.map V.int)/\∀H',Q (.bl true) H'
noncomputable def XG:List Int:=[0,1,2,3,4,5,6,7,8,9,6,7]
theorem Jf{T a dd:Str}{b:Addr}{names ws:List Str}{H:Hp}{Q:VK}{E:XK}(f:T.length<=40000)(hw:wS T.cps.toList=ws)(hb:H b=some (.lst (names.map V.str)))(hn:names.length<=1000)(hl:ws.length<=2000)(d:∀y∈ws,(1<=y.length/\y.length<=16)/\bL y.cps.toList=[y.cps.toList])(hd:dd=(if a="k"then"kind"else"term"))(c:cg names dd ws=none)(q:∀H',aD H H'->Q (.bl true) H'):lT [.str T, .str a, .ref b] H Q E:=by
 subst hw;refine⟨T,a,dd,b,names,rfl,by omega,hb,hn,?_,λz e=>?_,hd,c,q⟩;·unfold wS at hl;rw[bT]at hl;omega
 ·have :=(d (tx z) (List.mem_map.mpr ⟨z,e,rfl⟩)).1;rw[Cf]at this;omega
theorem g_:aJ ["_law_script","_law_names","_law_want","_law_made","_law_told","_law_way","_law_line","_law_other"] ["_law_script"] (aq zu):=⟨rfl,rfl,rfl,by decide+kernel,rfl,by decide+kernel,by decide+kernel⟩
theorem Xu{f:Addr}{fd:FuncData}(F:NI K "law" "law" zu f fd)(M:Mg mg t)(g:da P w K mg cR "_law_cell_at" (1) ["_law_script","_law_k"] (uC K))(bF:da P w K mg cR "_law_name_by" (2) ["_law_cell"] lR)(iG:da P w K mg cR "_law_grown" (138) ["_law_script","_law_state","_law_want","_law_deep","_law_scope"] (tT K 6))(j9:da P w K mg cR "_law_joined" (1) ["_law_told","_law_cell"] JB)(js:da P w K mg cR "_law_refused" (140) ["_law_line","_law_want","_law_names"] lT)(ya:da P w K mg cR "_law_spoilt" (4) ["_law_told","_law_way","_law_at","_law_cell"] A8):nP P w K mg base cR 141 f fd ["_law_script"] (EJ K):=by
 refine F.ok g_ (λvs H Q E h=>?_) (λcH A outer s H vs Q E c h=>?_);·obtain⟨a,ns,rfl,_⟩:=h;rfl
 obtain⟨a,ns,rfl,hS,q⟩:=h;refine⟨_,(ah (Cn (ix:=1) (N':=["_law_k","_law_script"]) (own:=1) (fr:=[0]) g_.nd rfl rfl rfl (jF (N:=["_law_script","_law_names","_law_want","_law_made","_law_told","_law_way","_law_line","_law_other"]) (sc:=aq zu) rfl rfl rfl (by decide+kernel)) (eN rfl M.fE (aa (ay bu (bA g c.m rfl bh (aa (pv 0) (aa aj af))) aj) af)) (fW (by decide)) (λ_ _ _=>(cL (i:=0) (show List.Nodup (["_law_k","_law_script"]:List Str)by decide+kernel) rfl (Or.inl rfl))) (λ_ _ _=>qi) (λ_ _ _=>(bA bF c.m rfl bh (aa (bA g c.m rfl bh (aa (pv 1) (aa (ay dz aj (pv 0)) af))) af)))) (ah (aE (i:=2) g_.nd rfl (dh rfl) (aZ aP (aT (aa ai (aa ai af))) (ay bu (ay bE (bA g c.m rfl bh (aa (pv 0) (aa aj af))) aj) aj) (λ_ _=>rfl))) (ah (aE (i:=3) g_.nd rfl (dh rfl) (bA iG c.m rfl bh (aa (pv 0) (aa (aT (aa aj (aa aj af))) (aa (pv 2) (aa (ay bu (ay bE (bA g c.m rfl bh (aa (pv 0) (aa aj af))) aj) aj) (aa (pv 1) af))))))) (ah (aE (i:=4) g_.nd rfl (dh rfl) (aZ gV (pv 3) aj (λ_ _=>rfl))) (ah (aE (i:=5) g_.nd rfl (dh rfl) (aZ aP (aT (aa aj (aa aj (aa aj (aa aj (aa aj (aa aj (aa aj (aa aj (aa aj (aa aj (aa aj (aa aj af))))))))))))) (ay bu (bA g c.m rfl bh (aa (pv 0) (aa aj af))) aj) (λ_ _=>rfl))) (ah (aE (i:=6) g_.nd rfl (dh rfl) (bA j9 c.m rfl bh (aa (pv 4) (aa (bA g c.m rfl bh (aa (pv 0) (aa aj af))) af)))) (ah (aS (ar aN (pv 5) aj (az _)) (ah (aE (i:=7) g_.nd rfl (dh rfl) (aZ aP (aT (aa ai (aa ai af))) (cQ lK rfl M.vC lN (aa (cM aN (pv 2) ai (az _)) af)) (λ_ _=>rfl))) (ao (aB (bA js c.m rfl bh (aa (pv 6) (aa (pv 7) (aa (pv 1) af))))))) aC) (ah (aE (i:=4) g_.nd rfl (dh rfl) (bA ya c.m rfl bh (aa (pv 4) (aa (pv 5) (aa (ay bu (ay bE (bA g c.m rfl bh (aa (pv 0) (aa aj af))) aj) (aM aL rfl M.dj cu (aa (pv 4) af))) (aa (bA g c.m rfl bh (aa (pv 0) (aa aj af))) af)))))) (ao (aB (bA js c.m rfl bh (aa (bA j9 c.m rfl bh (aa (pv 4) (aa (ay bE (bA g c.m rfl bh (aa (pv 0) (aa aj af))) aj) af))) (aa (pv 2) (aa (pv 1) af)))))))))))))),?_⟩;try dsimp only[j6,eC]
 refine aan ?_;intro _ _ _ _ _ _ _ _ _;have c0:=Int.emod_nonneg (b8 ns 0) (show(4:Int)≠0 by decide);have c1:=Int.emod_lt_of_pos (b8 ns 0) (show(0:Int)<4 by decide);obtain⟨l,hnn⟩:∃l:Nat,b8 ns 0%4=(l:Int):=⟨(b8 ns 0%4).toNat,by omega⟩;refine⟨_,rfl,a,ns,0,rfl,hS,_,_,rfl,rfl,(by show(0:Int)<4;decide),(l:Int),(by show[V.int (b8 ns 0%4)]=[V.int (l:Int)];rw[hnn]),(by show-(2^62)<=((l:Nat):Int);omega),(by show((l:Nat):Int)<2^62;omega),λp1 j5=>?_⟩;rw[show(((l:Nat):Int)).toNat=l by omega];refine F0 l (λ_ v=>∃y:Str,v= .str y/\isNm y=true) j5 (big (by omega)) (λk H2 hk s2=>⟨hk,?_⟩) λvs H2 s2 hl hB h2=>⟨bB _,?_⟩
 ·rintro x' I⟨rfl,rfl⟩R hR;have e0:(0:Int)+(k:Int)=((k:Nat):Int):=by omega
  rw[e0];refine⟨_,rfl,_,rfl,_,_,rfl,rfl,a,ns,3+k,(by show[V.ref a,V.int (3+(k:Int))]=[V.ref a,V.int ((3+k:Nat):Int)];rw[show(3:Int)+(k:Int)=((3+k:Nat):Int)by omega]),gM hS s2,_,rfl,λz H4 s4 hz=>hR _ H4 s4 ⟨z,rfl,hz⟩⟩
 obtain⟨names,rfl,A6⟩:=En hB;rw[bT]at hl;clear hB j5;have S2:=gM hS s2;have d0:=Int.emod_nonneg (b8 ns 0/4) (show(2:Int)≠0 by decide);have d1:=Int.emod_lt_of_pos (b8 ns 0/4) (show(0:Int)<2 by decide);refine⟨(dF rfl),λX mT=>?_⟩;have Z:=ak mT (.lst [V.str "t", .str "k"]);have h3:(upd H2 X (.lst [V.str "t", .str "k"])) X=some (.lst [V.str "t", .str "k"]):=ag;generalize upd H2 X (.lst [V.str "t", .str "k"])=I at Z h3⊢;have S3:=gM S2 Z;have ZP:=Z _ _ h2;clear Z s2 h2 S2 mT;obtain⟨want,KJ,SA⟩:∃want:Str,(want="k"\/want="t")/\zj [V.str "t",V.str "k"] (b8 ns 0/4%2)=some (.str want):=by
  rcases(show b8 ns 0/4%2=0\/b8 ns 0/4%2=1 by omega)with e|e;·exact⟨"t", .inr rfl,by rw[e];rfl⟩
  ·exact⟨"k", .inl rfl,by rw[e];rfl⟩
 refine⟨_,rfl,a,ns,0,rfl,S3,_,_,rfl,rfl,⟨by decide,by decide⟩,_,_,rfl,rfl,(by show(0:Int)<2;decide),X,_,_, .str want,rfl,rfl,bj.of h3,SA,?_⟩;clear SA d0 d1 h3;have e0:=Int.emod_nonneg (b8 ns 0/8) (show(5:Int)≠0 by decide);have e1:=Int.emod_lt_of_pos (b8 ns 0/8) (show(0:Int)<5 by decide);obtain⟨m,hm⟩:∃m:Nat,b8 ns 0/8%5=(m:Int):=⟨(b8 ns 0/8%5).toNat,by omega⟩;have hm5:m<=4:=by omega
 refine⟨_,rfl,(dF rfl),λp O=>?_⟩;have t4:=ak O (.lst [V.int 6, .int 200]);have h4:(upd I p (.lst [V.int 6, .int 200])) p=some (.lst [V.int ((6:Nat):Int), .int 200]):=ag;have U:∀H',bM p (upd I p (.lst [V.int 6, .int 200])) H'->bj K H' a (ns.map V.int):=λH' s=>by
  rcases S3 with(h|⟨o,h⟩)|h;·exact .inl (.inl (s _ _ (aI h O) (t4 _ _ h)))
  ·exact .inl (.inr ⟨o,s _ _ (aI h O) (t4 _ _ h)⟩)
  ·exact .inr h
 have S4:=U _ (λb o _ h=>h);have Zn:=t4 _ _ ZP;have np1:p1≠p:=aI ZP O;generalize upd I p (.lst [V.int 6, .int 200])=H4 at t4 h4 U S4 Zn⊢;refine⟨_,rfl,_,rfl,a,ns,0,rfl,S4,_,_,rfl,rfl,⟨by decide,by decide⟩,_,_,rfl,rfl,(by show(0:Int)<5;decide),_,rfl,a,p,p1,ns,want,m,6,200,names,?_,by omega,U,h4,by omega,by omega,by omega,Zn,A6,by omega,KJ,λr H5 o=>?_⟩;·show[V.ref a,V.ref p,V.str want,V.int (b8 ns 0/8%5),V.ref p1]=_;rw[hm]
 obtain⟨Y,u,d,ws,i',fj,lf,y1,y2,y3,y4,y5,y6,y7,y8,B,y10,y11,y12,Sx,y14,y15,ZQ⟩:=o.ex;have aa9:fj<=58:=by rcases y8 with h|h<;>omega
 have Je:ws.length<=900:=by omega
 have VB:ws.length<=2000:=by omega
 have S5:=U _ y1;have hn5:=y1 _ _ np1 Zn;have hwy:∀y∈ws,(1<=y.length/\y.length<=16)/\bL y.cps.toList=[y.cps.toList]:=λy n=>⟨⟨(B.wd y n).1,dI (B.wd y n).2 (by decide)⟩,B.br y n⟩;have aa_:∀y∈ws,1<=y.length/\y.length<=1000:=λy n=>⟨(B.wd y n).1,dI (B.wd y n).2 (by decide)⟩;have aa8:=Sx;refine⟨_,rfl,r,_,_,_,rfl,rfl,gG.of Sx,aG (j:=1) rfl,(dF rfl),λC e5=>?_⟩;have t6:=ak e5 (.lst [V.int 0, .int 1, .int 2, .int 3, .int 4, .int 5, .int 6, .int 7, .int 8, .int 9, .int 6, .int 7]);have h6:(upd H5 C (.lst [V.int 0, .int 1, .int 2, .int 3, .int 4, .int 5, .int 6, .int 7, .int 8, .int 9, .int 6, .int 7])) C=some (.lst (XG.map V.int)):=ag;show(λH6=>_) (upd H5 C (.lst [V.int 0, .int 1, .int 2, .int 3, .int 4, .int 5, .int 6, .int 7, .int 8, .int 9, .int 6, .int 7]));have XQ:=t6 _ _ y14;have hn6:=t6 _ _ hn5;have J:=gM S5 t6;generalize upd H5 C (.lst [V.int 0, .int 1, .int 2, .int 3, .int 4, .int 5, .int 6, .int 7, .int 8, .int 9, .int 6, .int 7])=H6 at t6 h6 XQ hn6 J⊢;obtain⟨D,hwi,Z1⟩:∃D:Nat,b8 ns 1%12=((D:Nat):Int)/\D<12:=⟨(b8 ns 1%12).toNat,by have :=Int.emod_nonneg (b8 ns 1) (show(12:Int)≠0 by decide);omega,by have :=Int.emod_lt_of_pos (b8 ns 1) (show(0:Int)<12 by decide);omega⟩;obtain⟨way,ZW⟩:∃x,XG[D]?=some x:=⟨_,cN (show D<12 from Z1)⟩;refine⟨_,rfl,a,ns,1,rfl,J,_,_,rfl,rfl,(by show(0:Int)<12;decide),C,_,_, .int way,rfl,rfl,bj.of h6,(by rw[hwi];exact aG (by rw[fU,ZW];rfl)),?_⟩;refine⟨_,rfl,_,rfl,a,ns,2,rfl,J,Y,ws,_,rfl,XQ,hwy,VB,λT H7 s7 hT hTl=>?_⟩;have hn7:=s7 _ _ hn6;have hq7:=s7 _ _ XQ;have S7:=gM J s7;obtain⟨dd,L⟩:∃dd:Str,dd=(if want="k"then"kind"else"term"):=⟨_,rfl⟩;have hkd:decide (want="k")=decide (dd="kind"):=by rcases KJ with rfl|rfl<;>rw[L]<;>decide+kernel
 have eT:cg names dd ws=some d:=G9 B hkd;have LB:names.length<=1000:=by omega
 refine⟨_,rfl,rfl,_,rfl,bz (λ_=>?_) (λ_=>?_)⟩
 ·refine⟨(dF rfl),λp6 e6=>?_⟩;have t8:=ak e6 (.lst [V.str "k", .str "t"]);obtain⟨W,G2,ho,WB,LI⟩:∃W G2:Str,zj [V.str "k", .str "t"] (if decide (V.str want=V.str "k")=true then(1:Int)else 0)=some (.str W)/\G2=(if W="k"then"kind"else"term")/\decide (dd="kind")≠decide (G2="kind"):=by
   rcases KJ with rfl|rfl;·exact⟨"t","term",by rw[decide_eq_true rfl];rfl,by decide+kernel,by rw[L];decide+kernel⟩
   ·exact⟨"k","kind",by rw[decide_eq_false (by decide+kernel)];rfl,by decide+kernel,by rw[L];decide+kernel⟩
  refine⟨_,rfl,rfl, .inr ⟨_,rfl,p6,_,_, .str W,rfl,rfl,bj.of ag,ho,?_⟩⟩;refine⟨_,rfl,_,rfl,_,rfl,?_⟩;exact Jf (E:=E0) hTl hT (t8 _ _ hn7) LB VB hwy WB (LO eT LI) λH' _=>q H'
 ·have G:Goo ws:=by obtain⟨a1,a2,a3⟩:=D_ eT;exact⟨a1,a2,a3,Je,hwy⟩
  have wp:0<ws.length:=by cases ws with|nil=>have :=G.sw;rw[sW]at this;simp at this|cons _ _=>simp
  obtain⟨k,hk,zi⟩:∃k:Nat,b8 ns 1/12%((ws.length:Nat):Int)=((k:Nat):Int)/\k<ws.length:=⟨(b8 ns 1/12%((ws.length:Nat):Int)).toNat,by have :=Int.emod_nonneg (b8 ns 1/12) (show((ws.length:Nat):Int)≠0 by omega);omega,by have :=Int.emod_lt_of_pos (b8 ns 1/12) (show(0:Int)<((ws.length:Nat):Int)by omega);omega⟩;refine⟨_,rfl,_,rfl,_,rfl,a,ns,1,rfl,S7,_,_,rfl,rfl,⟨by decide,by decide⟩,_,rfl,Y,_,rfl, .inl (bj.of hq7),_,_,rfl,rfl,(by rw[bT];show(0:Int)<((ws.length:Nat):Int);omega),_,rfl,a,ns,2,rfl,S7,?_⟩;refine⟨Y,ws,k,way,b8 ns 2,(by show[V.ref Y,V.int way,V.int (b8 ns 1/12%(((ws.map V.str).length:Nat):Int)),V.int (b8 ns 2)]=_;rw[bT,hk]),hq7,G,zi,λr' iz H8 s8 e8 S=>?_⟩;have S8:=gM S7 s8;have sl:=S.ln;refine⟨_,rfl,_,rfl,a,ns,2,rfl,S8,_,_,rfl,rfl,⟨by decide,by decide⟩,r',iz,_,rfl,e8,S.wd,by omega,λT' H9 s9 hT' aaj=>?_⟩;refine⟨_,rfl,_,rfl,?_⟩;exact Jf (E:=E0) aaj hT' (s9 _ _ (s8 _ _ hn7)) LB (by omega) S.wd L (S.no names dd) λH' _=>q H'
end K54
end
section
namespace K54
open PySem L2 L3 KM
theorem Sm{P:Program}{w:World}{K:PySem.W.Frag}{mg:Str->Option Value}{t:y_}(D:Df K mg "_law_cell_at" dO ["_law_script","_law_k"])(M:Mg mg t):da P w K mg cR "_law_cell_at" (1) ["_law_script","_law_k"] (uC K):=by obtain⟨f,fd,F,m,b⟩:=D;exact⟨f,fd,λbase=>NC F M.dj,m,F.kp,b⟩
structure Txt(K:PySem.W.Frag)(mg:Str->Option Value)(t:y_):Prop where
 M:Mg mg t
 Gr:Df K mg "is_name" gN ["value"]
 GG:Df K mg "is_vast" gI ["value"]
 Gg:Df K mg "kids_of" jc ["thing"]
 uI:Df K mg "top_variable" cO ["thing"]
 FX:Df K mg "bounded" iV ["thing"]
 BZ:Df K mg "words_of" fP ["text"]
 Gs:Df K mg "form_of" ja ["head"]
 vh:Df K mg "thing_named" eO ["word","forms","names"]
 Ap:Df K mg "is_figure" e_ ["word"]
 Bt:Df K mg "count_of" g6 ["number"]
 GO:Df K mg "leaf_of" je ["word","forms","names"]
 xh:Df K mg "read_thing" fH ["text","names","due"]
 AM:Df K mg "read_term" gz ["text","names"]
 AS:Df K mg "read_kind" gm ["text","names"]
 vi:Df K mg "_law_cell_at" dO ["_law_script","_law_k"]
 sD:Df K mg "_law_reserved" eE []
 u9:Df K mg "_law_name_by" eP ["_law_cell"]
 zp:Df K mg "_law_shape" gq ["_law_word"]
 zZ:Df K mg "_law_bound" gx ["_law_word"]
 zH:Df K mg "_law_named" gh ["_law_word","_law_scope"]
 Bc:Df K mg "_law_leaf" g7 ["_law_cell","_law_want","_law_scope","_law_state"]
 zw:Df K mg "_law_grown" e9 ["_law_script","_law_state","_law_want","_law_deep","_law_scope"]
 yQ:Df K mg "_law_joined" fD ["_law_told","_law_cell"]
 vq:Df K mg "_law_refused" eQ ["_law_line","_law_want","_law_names"]
 uY:Df K mg "_law_wrapped" eV ["_law_told","_law_at"]
 FY:Df K mg "_law_odd" jb ["_law_cell"]
 yI:Df K mg "_law_spoilt" eh ["_law_told","_law_way","_law_at","_law_cell"]
 Xk:Df K mg "law" zu ["_law_script"]
 xT:Mp K t.hI [.str "nat", .str "none", .str "all", .str "some", .str "same"]
 Bp:∃as,KD K t.kE [("nat",[]),("none",[]),("all",[.str "kind", .str "kind"]),("some",[.str "kind", .str "kind"]),("same",[.str "kind", .str "term", .str "term"]),("var",[]),("fun",[.str "kind", .str "term"]),("app",[.str "term", .str "term"]),("zero",[]),("next",[.str "term"]),("rec",[.str "kind", .str "term", .str "term", .str "term"]),("like",[.str "kind", .str "term"]),("carry",[.str "kind", .str "term", .str "term"]),("never",[.str "kind", .str "term"]),("pair",[.str "kind", .str "term", .str "term"]),("first",[.str "term"]),("second",[.str "term"]),("name",[])] as
 jz:k_ K t.gg [("all", .int 1),("some", .int 1),("fun", .int 1),("rec", .int 0),("carry", .int 0)]
 aH:nq K t.Form
 QP:PySem.W.makesIn K t.Form=true/\PySem.W.keepIn K (.ref t.Form)=true
 zQ:Dm K t.Form "__init__" "Form.__init__" cS ["self","word","name","due"]
 kX:Dm K t.Form "binds_here" "Form.binds_here" bx ["self"]
 tu:Dm K t.Form "is_full" "Form.is_full" bP ["self"]
 zG:Dm K t.Form "take" "Form.take" cT ["self","thing"]
 uV:Dm K t.Form "closed" "Form.closed" b7 ["self"]
 X:Ek K t
theorem txt_mk{K:PySem.W.Frag}{h:Heap}{mg:Str->Option Value}(X:K.In h)(G:h.Ns mainGlobals mg){vd:Tok}{yl:Tok}{lD:Tok}{nG:Tok}{B4:Tok}{o:Addr}{vb:Option Addr}{jv:Array Value}{ve:Nat}{u7:Array (Option Value)}{k:Addr}{m:Array DictEntry}{Al:Nat}{B M N O P Q R S T U C D E F H I J L:Addr}{wZ:Option Addr}{kQ:Array Value}{xS:Nat}{xE:Array (Option Value)}{xj:Option Addr}{kS:Array Value}{x9:Nat}{xo:Array (Option Value)}{xK:Option Addr}{ku:Array Value}{xt:Nat}{yB:Array (Option Value)}{wY:Option Addr}{kM:Array Value}{xp:Nat}{zh:Array (Option Value)}{yC:Option Addr}{ko:Array Value}{xV:Nat}{xi:Array (Option Value)}{xf:Option Addr}{kx:Array Value}{yT:Nat}{xX:Array (Option Value)}{yL:Option Addr}{kF:Array Value}{yJ:Nat}{xZ:Array (Option Value)}{yi:Option Addr}{kG:Array Value}{yO:Nat}{xM:Array (Option Value)}{zU:Option Addr}{m4:Array Value}{AX:Nat}{zm:Array (Option Value)}{Ay:Option Addr}{nc:Array Value}{z4:Nat}{Ae:Array (Option Value)}{A3:Option Addr}{mH:Array Value}{AW:Nat}{AN:Array (Option Value)}{zl:Option Addr}{mj:Array Value}{AB:Nat}{zV:Array (Option Value)}{z_:Option Addr}{mi:Array Value}{A9:Nat}{zK:Array (Option Value)}{As:Option Addr}{mv:Array Value}{zM:Nat}{AJ:Array (Option Value)}{An:Option Addr}{l_:Array Value}{AZ:Nat}{Ah:Array (Option Value)}{Au:Option Addr}{me:Array Value}{A5:Nat}{zD:Array (Option Value)}{zx:Option Addr}{mE:Array Value}{AH:Nat}{zq:Array (Option Value)}{zt:Option Addr}{mZ:Array Value}{zz:Nat}{Ac:Array (Option Value)}{i:Addr}{iM:Array DictEntry}{uQ:Nat}{BC:Tok}{tJ:Tok}{l:Addr}{j:Addr}{q:Addr}{r:Addr}{n:Addr}{s:Addr}{p:Addr}{v:Addr}{y:Addr}{x:Addr}{A:Addr}{b:Addr}{u:Addr}{z:Addr}{w:Addr}{a:Addr}{e:Addr}{wH yZ:Option Addr}{xO:Array (Option Value)}{w8 xI xJ xl Y xk:Value}{c:Addr}{jV jJ:Option Addr}{jW:Array (Option Value)}{jK j0 jY jT V jQ:Value}{f:Addr}{nR nI:Option Addr}{nN:Array (Option Value)}{nZ n5 nH nS Z nF:Value}{g:Addr}{xQ yA:Option Addr}{yM:Array (Option Value)}{xU yU xq yk k7 xN:Value}{d:Addr}{uN sY:Option Addr}{sC:Array (Option Value)}{uM tF tE ux W um:Value}(a0:dW K "is_name" gN)(a1:dW K "is_vast" gI)(a2:dW K "kids_of" jc)(a3:dW K "top_variable" cO)(a4:dW K "bounded" iV)(a5:dW K "words_of" fP)(a6:dW K "form_of" ja)(a7:dW K "thing_named" eO)(a8:dW K "is_figure" e_)(a9:dW K "count_of" g6)(a10:dW K "leaf_of" je)(a11:dW K "read_thing" fH)(a12:dW K "read_term" gz)(a13:dW K "read_kind" gm)(a14:dW K "_law_cell_at" dO)(a15:dW K "_law_reserved" eE)(a16:dW K "_law_name_by" eP)(a17:dW K "_law_shape" gq)(a18:dW K "_law_bound" gx)(a19:dW K "_law_named" gh)(a20:dW K "_law_leaf" g7)(a21:dW K "_law_grown" e9)(a22:dW K "_law_joined" fD)(a23:dW K "_law_refused" eQ)(a24:dW K "_law_wrapped" eV)(a25:dW K "_law_odd" jb)(a26:dW K "_law_spoilt" eh)(a27:dW K "law" zu)(z_ValueError:PySem.W.nsIn K mainGlobals "ValueError"=some none)(z_all:PySem.W.nsIn K mainGlobals "all"=some none)(z_int:PySem.W.nsIn K mainGlobals "int"=some none)(z_isinstance:PySem.W.nsIn K mainGlobals "isinstance"=some none)(z_len:PySem.W.nsIn K mainGlobals "len"=some none)(z_list:PySem.W.nsIn K mainGlobals "list"=some none)(z_max:PySem.W.nsIn K mainGlobals "max"=some none)(z_min:PySem.W.nsIn K mainGlobals "min"=some none)(z_range:PySem.W.nsIn K mainGlobals "range"=some none)(z_reversed:PySem.W.nsIn K mainGlobals "reversed"=some none)(z_str:PySem.W.nsIn K mainGlobals "str"=some none)(z_tuple:PySem.W.nsIn K mainGlobals "tuple"=some none)(g_MOST_KNOTS:PySem.W.nsIn K mainGlobals "MOST_KNOTS"=some (some (.int 600 vd)))(g_MOST_DEEP:PySem.W.nsIn K mainGlobals "MOST_DEEP"=some (some (.int 40 yl)))(g_MOST_VARIABLE:PySem.W.nsIn K mainGlobals "MOST_VARIABLE"=some (some (.int 99 lD)))(g_MOST_LETTERS:PySem.W.nsIn K mainGlobals "MOST_LETTERS"=some (some (.int 12 nG)))(g_LETTERS:PySem.W.nsIn K mainGlobals "LETTERS"=some (some (.str "abcdefghijklmnopqrstuvwxyz" B4)))(g_KIND_WORDS:PySem.W.nsIn K mainGlobals "KIND_WORDS"=some (some (.ref o)))(lk_KIND_WORDS:K.lookup o=some ⟨.type "tuple",vb, .seq jv ve,u7⟩)(vs_KIND_WORDS:cJ [.str "nat", .str "none", .str "all", .str "some", .str "same"] jv=true)(g_KIDS_DUE:PySem.W.nsIn K mainGlobals "KIDS_DUE"=some (some (.ref k)))(lk_KIDS_DUE:K.lookup k=some ⟨.type "dict",none, .dict m Al,#[]⟩)(sy_KIDS_DUE:(k==sysModules)=false)(ks_KIDS_DUE:g9 m.toList ["nat","none","all","some","same","var","fun","app","zero","next","rec","like","carry","never","pair","first","second","name"]=true)(rf_KIDS_DUE:refsOf m.toList=[B,M,N,O,P,Q,R,S,T,U,C,D,E,F,H,I,J,L])(u0_KIDS_DUE:K.lookup B=some ⟨.type "tuple",zt, .seq mZ zz,Ac⟩)(v0_KIDS_DUE:cJ [] mZ=true)(u1_KIDS_DUE:K.lookup M=some ⟨.type "tuple",zx, .seq mE AH,zq⟩)(v1_KIDS_DUE:cJ [] mE=true)(u2_KIDS_DUE:K.lookup N=some ⟨.type "tuple",Au, .seq me A5,zD⟩)(v2_KIDS_DUE:cJ [.str "kind", .str "kind"] me=true)(u3_KIDS_DUE:K.lookup O=some ⟨.type "tuple",An, .seq l_ AZ,Ah⟩)(v3_KIDS_DUE:cJ [.str "kind", .str "kind"] l_=true)(u4_KIDS_DUE:K.lookup P=some ⟨.type "tuple",As, .seq mv zM,AJ⟩)(v4_KIDS_DUE:cJ [.str "kind", .str "term", .str "term"] mv=true)(u5_KIDS_DUE:K.lookup Q=some ⟨.type "tuple",z_, .seq mi A9,zK⟩)(v5_KIDS_DUE:cJ [] mi=true)(u6_KIDS_DUE:K.lookup R=some ⟨.type "tuple",zl, .seq mj AB,zV⟩)(v6_KIDS_DUE:cJ [.str "kind", .str "term"] mj=true)(u7_KIDS_DUE:K.lookup S=some ⟨.type "tuple",A3, .seq mH AW,AN⟩)(v7_KIDS_DUE:cJ [.str "term", .str "term"] mH=true)(u8_KIDS_DUE:K.lookup T=some ⟨.type "tuple",Ay, .seq nc z4,Ae⟩)(v8_KIDS_DUE:cJ [] nc=true)(u9_KIDS_DUE:K.lookup U=some ⟨.type "tuple",zU, .seq m4 AX,zm⟩)(v9_KIDS_DUE:cJ [.str "term"] m4=true)(u10_KIDS_DUE:K.lookup C=some ⟨.type "tuple",yi, .seq kG yO,xM⟩)(v10_KIDS_DUE:cJ [.str "kind", .str "term", .str "term", .str "term"] kG=true)(u11_KIDS_DUE:K.lookup D=some ⟨.type "tuple",yL, .seq kF yJ,xZ⟩)(v11_KIDS_DUE:cJ [.str "kind", .str "term"] kF=true)(u12_KIDS_DUE:K.lookup E=some ⟨.type "tuple",xf, .seq kx yT,xX⟩)(v12_KIDS_DUE:cJ [.str "kind", .str "term", .str "term"] kx=true)(u13_KIDS_DUE:K.lookup F=some ⟨.type "tuple",yC, .seq ko xV,xi⟩)(v13_KIDS_DUE:cJ [.str "kind", .str "term"] ko=true)(u14_KIDS_DUE:K.lookup H=some ⟨.type "tuple",wY, .seq kM xp,zh⟩)(v14_KIDS_DUE:cJ [.str "kind", .str "term", .str "term"] kM=true)(u15_KIDS_DUE:K.lookup I=some ⟨.type "tuple",xK, .seq ku xt,yB⟩)(v15_KIDS_DUE:cJ [.str "term"] ku=true)(u16_KIDS_DUE:K.lookup J=some ⟨.type "tuple",xj, .seq kS x9,xo⟩)(v16_KIDS_DUE:cJ [.str "term"] kS=true)(u17_KIDS_DUE:K.lookup L=some ⟨.type "tuple",wZ, .seq kQ xS,xE⟩)(v17_KIDS_DUE:cJ [] kQ=true)(g_BINDER_OVER:PySem.W.nsIn K mainGlobals "BINDER_OVER"=some (some (.ref i)))(lk_BINDER_OVER:K.lookup i=some ⟨.type "dict",none, .dict iM uQ,#[]⟩)(sy_BINDER_OVER:(i==sysModules)=false)(vs_BINDER_OVER:g8 iM.toList [("all",1),("some",1),("fun",1),("rec",0),("carry",0)]=true)(g_FIGURES:PySem.W.nsIn K mainGlobals "FIGURES"=some (some (.str "0123456789" BC)))(g_MOST_FIGURE:PySem.W.nsIn K mainGlobals "MOST_FIGURE"=some (some (.int 39 tJ)))(g_KeeperError:PySem.W.nsIn K mainGlobals "KeeperError"=some (some (.ref l)))(g_Great:PySem.W.nsIn K mainGlobals "Great"=some (some (.ref j)))(g_NoPlace:PySem.W.nsIn K mainGlobals "NoPlace"=some (some (.ref q)))(g_NoStep:PySem.W.nsIn K mainGlobals "NoStep"=some (some (.ref r)))(g_Dry:PySem.W.nsIn K mainGlobals "Dry"=some (some (.ref n)))(g_NoVariable:PySem.W.nsIn K mainGlobals "NoVariable"=some (some (.ref s)))(g_NoName:PySem.W.nsIn K mainGlobals "NoName"=some (some (.ref p)))(g_NotAll:PySem.W.nsIn K mainGlobals "NotAll"=some (some (.ref v)))(g_NotSome:PySem.W.nsIn K mainGlobals "NotSome"=some (some (.ref y)))(g_NotSame:PySem.W.nsIn K mainGlobals "NotSame"=some (some (.ref x)))(g_Unlike:PySem.W.nsIn K mainGlobals "Unlike"=some (some (.ref A)))(g_NoText:PySem.W.nsIn K mainGlobals "NoText"=some (some (.ref b)))(g_NoWord:PySem.W.nsIn K mainGlobals "NoWord"=some (some (.ref u)))(g_TwiceTold:PySem.W.nsIn K mainGlobals "TwiceTold"=some (some (.ref z)))(g_NotClosed:PySem.W.nsIn K mainGlobals "NotClosed"=some (some (.ref w)))(g_Form:PySem.W.nsIn K mainGlobals "Form"=some (some (.ref a)))(pg_Form:PySem.W.plainGet K a Str.empty=true)(hd_Form:PySem.W.hasDictIn K a=true)(po_Form:PySem.W.plainOver K a=true)(sa_Form:PySem.W.findIn K (.ref a) "__setattr__"=some (some (.builtin "object.__setattr__")))(mk_Form:PySem.W.makesIn K a=true)(kp_Form:PySem.W.keepIn K (.ref a)=true)(na_Form_word:PySem.W.findIn K (.ref a) "word"=some none)(na_Form_name:PySem.W.findIn K (.ref a) "name"=some none)(na_Form_due:PySem.W.findIn K (.ref a) "due"=some none)(na_Form_parts:PySem.W.findIn K (.ref a) "parts"=some none)(a_Form_init:PySem.W.findIn K (.ref a) "__init__"=some (some (.ref e)))(l_Form_init:K.lookup e=some ⟨w8,wH, .func (PySem.W.fnOf "__init__" "Form.__init__" (de cS) (bN cS) (aq cS) .none xI xJ xl yZ Y xk),xO⟩)(c_Form_init:PySem.W.codeIn K Y "Form.__init__"=true)(k_Form_init:PySem.W.keepIn K (.ref e)=true)(n_Form_init:PySem.W.isFn K (.ref e)=true)(a_Form_binds_here:PySem.W.findIn K (.ref a) "binds_here"=some (some (.ref c)))(l_Form_binds_here:K.lookup c=some ⟨jK,jV, .func (PySem.W.fnOf "binds_here" "Form.binds_here" (de bx) (bN bx) (aq bx) .none j0 jY jT jJ V jQ),jW⟩)(c_Form_binds_here:PySem.W.codeIn K V "Form.binds_here"=true)(k_Form_binds_here:PySem.W.keepIn K (.ref c)=true)(n_Form_binds_here:PySem.W.isFn K (.ref c)=true)(a_Form_is_full:PySem.W.findIn K (.ref a) "is_full"=some (some (.ref f)))(l_Form_is_full:K.lookup f=some ⟨nZ,nR, .func (PySem.W.fnOf "is_full" "Form.is_full" (de bP) (bN bP) (aq bP) .none n5 nH nS nI Z nF),nN⟩)(c_Form_is_full:PySem.W.codeIn K Z "Form.is_full"=true)(k_Form_is_full:PySem.W.keepIn K (.ref f)=true)(n_Form_is_full:PySem.W.isFn K (.ref f)=true)(a_Form_take:PySem.W.findIn K (.ref a) "take"=some (some (.ref g)))(l_Form_take:K.lookup g=some ⟨xU,xQ, .func (PySem.W.fnOf "take" "Form.take" (de cT) (bN cT) (aq cT) .none yU xq yk yA k7 xN),yM⟩)(c_Form_take:PySem.W.codeIn K k7 "Form.take"=true)(k_Form_take:PySem.W.keepIn K (.ref g)=true)(n_Form_take:PySem.W.isFn K (.ref g)=true)(a_Form_closed:PySem.W.findIn K (.ref a) "closed"=some (some (.ref d)))(l_Form_closed:K.lookup d=some ⟨uM,uN, .func (PySem.W.fnOf "closed" "Form.closed" (de b7) (bN b7) (aq b7) .none tF tE ux sY W um),sC⟩)(c_Form_closed:PySem.W.codeIn K W "Form.closed"=true)(k_Form_closed:PySem.W.keepIn K (.ref d)=true)(n_Form_closed:PySem.W.isFn K (.ref d)=true)(x_nt:PySem.W.excIn K b [.type "ValueError", .type "Exception", .type "BaseException", .type "object"] "ValueError.__new__"=true)(x_ke:PySem.W.excIn K l [.type "ValueError", .type "Exception", .type "BaseException", .type "object"] "ValueError.__new__"=true)(x_gr:PySem.W.excIn K j [.type "ValueError", .type "Exception", .type "BaseException", .type "object"] "ValueError.__new__"=true)(x_c1:PySem.W.findIn K (.ref b) "__getattribute__"=some (some (.builtin "BaseException.__getattribute__")))(x_c2:PySem.W.findIn K (.ref b) "__class__"=some (some (.builtin "object.__class__")))(x_c3:PySem.W.findIn K (.ref b) "__getattr__"=some none)(x_c4:PySem.W.mroIn K b (.type "object")=some true)(x_c5:PySem.W.mroIn K b (.type "BaseException")=some true)(x_c6:(PySem.W.clsIn K b).isSome=true)(x_s2:PySem.W.subIn K (.ref b) (.ref l)=some true)(x_k1:PySem.W.kitOne K (.ref b) (.type "ValueError")=some true)(x_k2:PySem.W.kitOne K (.ref b) (.ref b)=some true)(x_a1:PySem.W.kitAny K (.ref b) [.ref n, .ref j, .ref p, .ref q, .ref r, .ref s, .ref u, .ref A]=some false)(x_a2:PySem.W.kitAny K (.ref b) [.ref v, .ref w, .ref x, .ref y, .ref z]=some false):∃t,Txt K mg t:=⟨⟨(),o,k,i,l,j,q,r,n,s,p,v,y,x,A,b,u,z,w,a⟩,⟨⟨PySem.W.mg_none_of X G z_ValueError,PySem.W.mg_none_of X G z_all,PySem.W.mg_none_of X G z_int,PySem.W.mg_none_of X G z_isinstance,PySem.W.mg_none_of X G z_len,PySem.W.mg_none_of X G z_list,PySem.W.mg_none_of X G z_max,PySem.W.mg_none_of X G z_min,PySem.W.mg_none_of X G z_range,PySem.W.mg_none_of X G z_reversed,PySem.W.mg_none_of X G z_str,PySem.W.mg_none_of X G z_tuple,⟨_,PySem.W.mg_of X G g_MOST_KNOTS⟩,⟨_,PySem.W.mg_of X G g_MOST_DEEP⟩,⟨_,PySem.W.mg_of X G g_MOST_VARIABLE⟩,⟨_,PySem.W.mg_of X G g_MOST_LETTERS⟩,⟨_,PySem.W.mg_of X G g_LETTERS⟩,PySem.W.mg_of X G g_KIND_WORDS,PySem.W.mg_of X G g_KIDS_DUE,PySem.W.mg_of X G g_BINDER_OVER,⟨_,PySem.W.mg_of X G g_FIGURES⟩,⟨_,PySem.W.mg_of X G g_MOST_FIGURE⟩,PySem.W.mg_of X G g_KeeperError,PySem.W.mg_of X G g_Great,PySem.W.mg_of X G g_NoPlace,PySem.W.mg_of X G g_NoStep,PySem.W.mg_of X G g_Dry,PySem.W.mg_of X G g_NoVariable,PySem.W.mg_of X G g_NoName,PySem.W.mg_of X G g_NotAll,PySem.W.mg_of X G g_NotSome,PySem.W.mg_of X G g_NotSame,PySem.W.mg_of X G g_Unlike,PySem.W.mg_of X G g_NoText,PySem.W.mg_of X G g_NoWord,PySem.W.mg_of X G g_TwiceTold,PySem.W.mg_of X G g_NotClosed,PySem.W.mg_of X G g_Form⟩,a0.df X G λ_ _ _ _ _ _=>gk (λ_=>rfl),a1.df X G λ_ _ _ _ _ _=>gk (λ_=>rfl),a2.df X G λ_ _ _ _ _ _=>gk (λ_=>rfl),a3.df X G λ_ _ _ _ _ _=>gk (λ_=>rfl),a4.df X G λ_ _ _ _ _ _=>gk (λ_=>rfl),a5.df X G λ_ _ _ _ _ _=>gk (λ_=>rfl),a6.df X G λ_ _ _ _ _ _=>gk (λ_=>rfl),a7.df X G λ_ _ _ _ _ _=>V6 (λ_ _ _=>rfl),a8.df X G λ_ _ _ _ _ _=>gk (λ_=>rfl),a9.df X G λ_ _ _ _ _ _=>gk (λ_=>rfl),a10.df X G λ_ _ _ _ _ _=>V6 (λ_ _ _=>rfl),a11.df X G λ_ _ _ _ _ _=>V6 (λ_ _ _=>rfl),a12.df X G λ_ _ _ _ _ _=>Ke (λ_ _=>rfl),a13.df X G λ_ _ _ _ _ _=>Ke (λ_ _=>rfl),a14.df X G λ_ _ _ _ _ _=>Ke (λ_ _=>rfl),a15.df X G λ_ _ _ _ _ _=>by0 rfl,a16.df X G λ_ _ _ _ _ _=>gk (λ_=>rfl),a17.df X G λ_ _ _ _ _ _=>gk (λ_=>rfl),a18.df X G λ_ _ _ _ _ _=>gk (λ_=>rfl),a19.df X G λ_ _ _ _ _ _=>Ke (λ_ _=>rfl),a20.df X G λ_ _ _ _ _ _=>by4 (λ_ _ _ _=>rfl),a21.df X G λ_ _ _ _ _ _=>by5 (λ_ _ _ _ _=>rfl),a22.df X G λ_ _ _ _ _ _=>Ke (λ_ _=>rfl),a23.df X G λ_ _ _ _ _ _=>V6 (λ_ _ _=>rfl),a24.df X G λ_ _ _ _ _ _=>Ke (λ_ _=>rfl),a25.df X G λ_ _ _ _ _ _=>gk (λ_=>rfl),a26.df X G λ_ _ _ _ _ _=>by4 (λ_ _ _ _=>rfl),a27.df X G λ_ _ _ _ _ _=>gk (λ_=>rfl),cX lk_KIND_WORDS vs_KIND_WORDS,⟨_,Wu sy_KIDS_DUE lk_KIDS_DUE ks_KIDS_DUE rf_KIDS_DUE rfl (cz (cX u0_KIDS_DUE v0_KIDS_DUE) (cz (cX u1_KIDS_DUE v1_KIDS_DUE) (cz (cX u2_KIDS_DUE v2_KIDS_DUE) (cz (cX u3_KIDS_DUE v3_KIDS_DUE) (cz (cX u4_KIDS_DUE v4_KIDS_DUE) (cz (cX u5_KIDS_DUE v5_KIDS_DUE) (cz (cX u6_KIDS_DUE v6_KIDS_DUE) (cz (cX u7_KIDS_DUE v7_KIDS_DUE) (cz (cX u8_KIDS_DUE v8_KIDS_DUE) (cz (cX u9_KIDS_DUE v9_KIDS_DUE) (cz (cX u10_KIDS_DUE v10_KIDS_DUE) (cz (cX u11_KIDS_DUE v11_KIDS_DUE) (cz (cX u12_KIDS_DUE v12_KIDS_DUE) (cz (cX u13_KIDS_DUE v13_KIDS_DUE) (cz (cX u14_KIDS_DUE v14_KIDS_DUE) (cz (cX u15_KIDS_DUE v15_KIDS_DUE) (cz (cX u16_KIDS_DUE v16_KIDS_DUE) (cz (cX u17_KIDS_DUE v17_KIDS_DUE) RU))))))))))))))))))⟩,ML sy_BINDER_OVER lk_BINDER_OVER vs_BINDER_OVER,⟨⟨pg_Form,hd_Form,po_Form,sa_Form⟩,na_Form_word,na_Form_name,na_Form_due,na_Form_parts⟩,⟨mk_Form,kp_Form⟩,⟨e,_,ft (st:=cS) l_Form_init c_Form_init k_Form_init,⟨a_Form_init,n_Form_init,k_Form_init⟩,(ft (st:=cS) l_Form_init c_Form_init k_Form_init).binds λ_ _ _ _ _ _=>by4 (λ_ _ _ _=>rfl)⟩,⟨c,_,ft (st:=bx) l_Form_binds_here c_Form_binds_here k_Form_binds_here,⟨a_Form_binds_here,n_Form_binds_here,k_Form_binds_here⟩,(ft (st:=bx) l_Form_binds_here c_Form_binds_here k_Form_binds_here).binds λ_ _ _ _ _ _=>gk (λ_=>rfl)⟩,⟨f,_,ft (st:=bP) l_Form_is_full c_Form_is_full k_Form_is_full,⟨a_Form_is_full,n_Form_is_full,k_Form_is_full⟩,(ft (st:=bP) l_Form_is_full c_Form_is_full k_Form_is_full).binds λ_ _ _ _ _ _=>gk (λ_=>rfl)⟩,⟨g,_,ft (st:=cT) l_Form_take c_Form_take k_Form_take,⟨a_Form_take,n_Form_take,k_Form_take⟩,(ft (st:=cT) l_Form_take c_Form_take k_Form_take).binds λ_ _ _ _ _ _=>Ke (λ_ _=>rfl)⟩,⟨d,_,ft (st:=b7) l_Form_closed c_Form_closed k_Form_closed,⟨a_Form_closed,n_Form_closed,k_Form_closed⟩,(ft (st:=b7) l_Form_closed c_Form_closed k_Form_closed).binds λ_ _ _ _ _ _=>gk (λ_=>rfl)⟩,⟨⟨_,_,_,PySem.F.excBase_ValueError,x_nt⟩,⟨_,_,_,PySem.F.excBase_ValueError,x_ke⟩,⟨_,_,_,PySem.F.excBase_ValueError,x_gr⟩,⟨x_c1,x_c2,x_c3,x_c4,x_c5,x_c6⟩,x_s2,x_k1,x_k2,x_a1,x_a2⟩⟩⟩
theorem Sb{P:Program}{w:World}{K:PySem.W.Frag}{mg:Str->Option Value}{C:Addr}{x:Str}{k:Nat}{ps:List Str}{sp:Sp}(F:jq P w K mg cR C "__init__" k ps sp)(N:PySem.W.makesIn K C=true/\PySem.W.keepIn K (.ref C)=true)(m:mg x=some (.ref C)):Nc P w K mg x C k ps sp:=by obtain⟨f,fd,F,M,b⟩:=F;exact⟨f,fd,F,⟨N.1,M.at_,M.fn,N.2⟩,m,b⟩
theorem fin{l:PySem.W.OpenLaw}{w:World}{K:PySem.W.Frag}{mg:Str->Option Value}{t:y_}{fa:Addr}(T:Txt K mg t)(A:mg "law"=some (.ref fa)):∃fd:FuncData,(∀(s:Shared)(v:Value),BindsTo s fd ⟨[v],[]⟩ [("_law_script",v)])/\∀base:Heap,K.In base->base.Ns mainGlobals mg->nP l.prog w K mg base cR 141 fa fd ["_law_script"] (EJ K):=by
 obtain⟨f,fd,F,m,b⟩:=T.Xk;have e:=A.symm.trans m;cases e;refine⟨fd,?_,λbase _ _=>?_⟩;·obtain⟨oc,od,kV,doc,pm,an,cH,ct,Ge,rfl,S,R⟩:=F.ex;exactλs v=> .of_eq rfl
 obtain⟨as,d⟩:=T.Bp;have g:=Sm (P:=l.prog) (w:=w) T.vi T.M;have k:=sP (P:=l.prog) (w:=w) T.sD T.M;have a:=uW T.u9 T.M k;have n:=A4 (P:=l.prog) (w:=w) T.zp T.M;have o:=AY (P:=l.prog) (w:=w) T.zZ T.M;have p:=Aw (P:=l.prog) (w:=w) (K:=K) T.zH T.M;have q:=Bi T.Bc T.M a p;have r:=mX T.zw T.M g q o n a 6;have u:=yz (P:=l.prog) (w:=w) T.yQ T.M;have w1:=Bd (P:=l.prog) (w:=w) T.BZ T.M;have D:=GA (P:=l.prog) (w:=w) T.Gg T.M;have N:=iK T.uI T.M D 60;have O:=GU (P:=l.prog) (w:=w) T.GG T.M;have Q:=GH T.FX T.M T.X.gr O N;have j:=FN (P:=l.prog) (w:=w) T.Gr T.M d;have h:=Sb (c_Form_init (P:=l.prog) (w:=w) T.zQ T.M T.aH) T.QP T.M.g_Form;have c:=c_Form_is_full (P:=l.prog) (w:=w) T.tu T.M T.aH;have x:=c_Form_take T.zG T.M T.aH T.X.nt T.xT c;have y:=c_Form_closed T.uV T.M T.aH T.X.nt c;have z:=c_Form_binds_here (P:=l.prog) (w:=w) T.kX T.M T.aH T.jz;have E:=Bw (P:=l.prog) (w:=w) T.Bt T.M;have G:=AE (P:=l.prog) (w:=w) T.Ap T.M;have H:=u_ T.vh T.M T.aH z;have I:=GP T.Gs T.M T.X.nt d T.jz j h;have J:=Kh T.GO T.M T.X.nt G E j H;have i:=JT T.xh T.M T.aH T.X.nt w1 h c x y I J Q;have L:=AA T.AM T.M i;have M:=AO T.AS T.M i;have l1:=vc T.vq T.M T.X L M;have l2:=uX (P:=l.prog) (w:=w) T.uY T.M;have B:=Gj T.FY T.M a;have C:=xP T.yI T.M l2 B;exact Xu F T.M g a r u l1 C
theorem walk{l:PySem.W.OpenLaw}{q:Program}{loose:List Str}{XP:(Str->Option Value)->Heap->Prop}{YP:World->Heap->Prop}{d:DefRec}{K:Params->PySem.W.Frag}(hn:l.most=some 63)(e:d.params.defaults=[])(c:∀(w:World)(h:Heap),YP w h->(K w.params).In h)(F:∀(w:World)(mg:Str->Option Value)(fa:Addr)(h:Heap),(K w.params).In h->h.Ns mainGlobals mg->mg d.name=some (.ref fa)->∃fd:FuncData,(∀(s:Shared)(u:Value),BindsTo s fd ⟨[u],[]⟩ [("_law_script",u)])/\∀base:Heap,(K w.params).In base->base.Ns mainGlobals mg->nP l.prog w (K w.params) mg base cR 141 fa fd ["_law_script"] (EJ (K w.params))):PySem.W.WalkO q loose XP YP l.row.toRowW d [] (λf vs=>PySem.call f vs):=L2.Ma (n:=63) (k:=141) (x:="_law_script") (CX:=λ_=>cR) (sp:=λw=>EJ (K w.params)) hn (by decide) e ⟨by decide,by decide,λ_=>rfl⟩ c F (λ_ _ a ns hl _ b=>⟨a,ns,rfl,b,λ_=>rfl⟩) λ_ _ _ _ _ z=>z
end K54
end
section
namespace HD
open PySem PySem.W PySem.Calls PyProof.Rows
noncomputable def xv{a:Type}:List a->List a×List a|[]=>([],[])|x::r=>(x::(xv r).2,(xv r).1)
noncomputable def R4:Nat->List Obj->BT|0,_=> .nil|_+1,[]=> .nil|n+1,x::r=> .node x (R4 n (xv r).1) (R4 n (xv r).2)
noncomputable def mkT(l:List Obj):BT:=R4 14 l
noncomputable def i(n:Nat):Value:= .int (.ofNat n) 0
noncomputable def view(p:Program)(l:List Stmt):Program:={p with main:={p.main with body:=l}}
noncomputable abbrev ig(a:Type):Type:=World->(OsState->a)×(OsState->a)
def Ok{a:Type}(q:ig a):Prop:=∀w,(q w).1=(q w).2
theorem gk{b:Type}{q a:ig b}(e:q=a)(h:∀w,(a w).1=(a w).2):Ok q:=by subst e;exact h
theorem Ke{f:Type}{q a b:ig f}(r:String)(c:(λw=>q (w.withFollow r false))=a)(d:(λw=>q (w.withFollow r true))=b)(e:∀w,(a w).1=(a w).2)(ht:∀w,(b w).1=(b w).2):Ok q:=by subst c d;exactλw=>byRow2 r (P:=λw=>(q w).1=(q w).2) e ht w
section
variable(p:Program)(m:Nat)(ann:Option Value)
noncomputable def pre(n:Nat)(S a:World->OsState->Shared)(t t':Thread):ig (Option (Shared×Thread)):=λw=>(λos=>topGo treeTable p w m ann n (S w os) t,λos=>some (a w os,t'))
noncomputable def blk(n:Nat)(S:World->OsState->Shared)(a:World->OsState->SharedT)(b:List Stmt)(env:Env)(c:Code)(d e:Pos)(B:List Frame):ig (Option (Flow×Shared×Code×Pos)):=λw=>(λos=>segRun treeTable p w m ann 1 n (S w os) (blockOf b env c d B),λos=>some (Flow.next,(a w os).abs,c,e))
noncomputable def seg(n:Nat)(S a:World->OsState->SharedT)(l:List Stmt)(env:Env)(c:Code)(b d:Pos)(B:List Frame):ig (Option (Flow×SharedT×Code×Pos)):=λw=>(λos=>segRunT treeTable p w m ann 1 n (S w os) (piecesOf l env c b B),λos=>some (Flow.next,a w os,c,d))
noncomputable def fin(n:Nat)(S:World->OsState->SharedT)(a:World->OsState->Shared)(t:Thread):ig (Option Shared):=λw=>(λos=>topRun treeTable p w m ann n (S w os).abs t,λos=>some (a w os))
variable{p:Program}{m:Nat}{ann:Option Value}
def Goes(p:Program)(m:Nat)(ann:Option Value)(R:World->OsState->Shared)(n:Nat)(S:World->OsState->Shared)(t:Thread):Prop:=∀w os,topRun treeTable p w m ann n (S w os) t=some (R w os)
noncomputable def LS(S:World->OsState->SharedT):World->OsState->Shared:=λw os=>(S w os).abs
theorem VD{n:Nat}{S:World->OsState->SharedT}{R:World->OsState->Shared}{env:Env}{c:Code}{a q:Pos}(h:Ok (fin p m ann n S R ⟨doneF .next,c,a,[topFrame q]⟩)):Goes p m ann R n (LS S) (restOf [] env c a [topFrame q]):=λw os=>piece_nil (congrFun (h w) os)
theorem dY{n N:Nat}{S a:World->OsState->SharedT}{R:World->OsState->Shared}{l rest:List Stmt}{env:Env}{c:Code}{b d q:Pos}(h:Ok (seg p m ann n S a l env c b d [topFrame q]))(k:Goes p m ann R N (LS a) (restOf rest env c d [topFrame q])):Goes p m ann R (n+N) (LS S) (restOf (l++rest) env c b [topFrame q]):=λw os=>piece_app (segRun_of (congrFun (h w) os)) (k w os)
theorem Xv{n N:Nat}{S:World->OsState->Shared}{a:World->OsState->SharedT}{R:World->OsState->Shared}{b c:List Stmt}{env:Env}{d f q:Pos}(e:b=c)(h:Ok (blk p m ann n S a b env (.body b env) d f [topFrame q]))(k:Goes p m ann R N (LS a) (restOf c env (.body b env) f [topFrame q])):Goes p m ann R (n+N) S ⟨denote treeTable (.body b env), .body b env,d,[topFrame q]⟩:=λw os=>by subst e;exact piece_block (congrFun (h w) os) (k w os)
theorem Wc{n N:Nat}{S a R:World->OsState->Shared}{t t':Thread}(h:Ok (pre p m ann n S a t t'))(k:Goes p m ann R N a t'):Goes p m ann R (n+N) S t:=λw os=>go_top (congrFun (h w) os) (k w os)
end
noncomputable def sz(m:Nat)(a:Option Value):ig (Bool×Nat×Option Value):=λw=>(λ_=>((boot_heap w.params).isNs mainGlobals&&(Array.mk []:Array GenState).size==0,(boot_heap w.params).objs.size,(boot_heap w.params).nsMap mainGlobals "__annotations__"),λ_=>(true,m,a))
noncomputable def WD(H:Params->Heap)(d:Drawn)(k:Nat):World->OsState->Shared:=λw os=>⟨H w.params,Array.mk [],d,k,os⟩
noncomputable def la(p:Program)(H₁:Params->Heap)(d:Drawn)(k:Nat):ig Bool:=λw=>(λos=>(staticsOk (importedModules p.main.body) (boot_heap w.params) (H₁ w.params)&&namesBound p (H₁ w.params)&&gensDone ⟨H₁ w.params,Array.mk [],d,k,os⟩&&laidKept (boot_heap w.params) (H₁ w.params)),λ_=>true)
noncomputable def lb(p q:Program)(loose:List Str)(Xt:Shared->Bool)(H₁:Params->Heap)(d:Drawn)(k:Nat):=λ(w:World)=>((λ(os:OsState)=>openSeen q loose (importedModules p.main.body) Xt true ⟨H₁ w.params,Array.mk [],d,k,os⟩),(λ(_:OsState)=>openGood q loose))
noncomputable def lc(H:Hook)(H₁:Params->Heap)(d:Drawn)(k:Nat):ig H.α:=λw=>(λos=>H.obs ⟨H₁ w.params,Array.mk [],d,k,os⟩,λ_=>H.val w)
theorem left{p q:Program}{loose:List Str}{Xt:Shared->Bool}{H:Hook}{N m M:Nat}{a:Option Value}{H₁:Params->Heap}{d:Drawn}{k:Nat}(e:opening p=plainProg p.main.scope.names)(b:Nat.ble 600 N=true)(f:∀s,fenceModules? p s=some s)(size:Ok (sz m a))(run:Goes p m a (WD H₁ d k) M (WD boot_heap boot_drawn boot_toks) (topStub p))(le:Nat.ble M N=true)(ha:Ok (la p H₁ d k))(hb:Ok (lb p q loose Xt H₁ d k))(hc:Ok (lc H H₁ d k)):LeftO p q loose Xt H.obs H.val N:=LeftO.of_pieces (H₀:=boot_heap) (H₁:=H₁) (boot_open e b f) (λw=>congrFun (size w) default) run le λw=>funext λos=>looks_pair (congrFun (ha w) os) (looks_pair (congrFun (hb w) os) (congrFun (hc w) os))
noncomputable def tp(l:List Value):Obj:=⟨.type "tuple",none, .seq l.toArray 0,#[]⟩
noncomputable def fl(l:List Value):Obj:=⟨.none,none, .fields l.toArray,#[]⟩
noncomputable def e(P:Params)(x:Str)(n:Nat)(v:Value):DictEntry:=⟨PyData.keyHash P x, .str x n,v⟩
noncomputable def dc(l:List DictEntry)(n:Nat):Obj:=⟨.type "dict",none, .dict l.toArray n,#[]⟩
noncomputable def dm(o:Obj)(l:List DictEntry)(n:Nat):Obj:=match o.data with| .dict a _=>dc (a.toList++l) n|_=>o
noncomputable def fa(o:Obj)(l:List Value):Obj:=match o.data with| .fields a=>fl (a.toList++l)|_=>o
noncomputable abbrev F4:Type:=Option (Flow×SharedT×Code×Pos)
noncomputable def cd(n q f:Str)(a b c:Nat)(k1 k2 e g h r:Nat)(t:Bool)(m s:Nat)(j k l o:Value)(y z d:Nat):Obj:=⟨.type "code",none, .fields #[.str n a, .str q b, .str f c,i k1,i k2,i e,i g,i h, .ref r, .bool t,i m, .ref s,j,k,l,o,i y,i z, .str f d],#[]⟩
noncomputable def fs(n q:Str)(s:Stmt):Obj:=⟨.none,none, .func ⟨n,q,L2.de s, .stmts (L2.bN s),L2.aq s,0,[], .none, .none, .none, .none,none, .none, .none,0⟩,#[]⟩
noncomputable def fu(n q:Str)(s:Stmt)(m:Str)(k c:Nat):Obj:=⟨.type "function",none, .func ⟨n,q,L2.de s, .stmts (L2.bN s),L2.aq s,3,[], .none, .none, .none, .str m k,none, .ref c, .none,0⟩,#[]⟩
noncomputable def fm(a b c:Nat)(m:Str)(k:Nat):Obj:=⟨.type "frame",none, .plain,#[some (.ref a),some (.ref b),some (.ref c),none,some (.str m k),none,some (.ref 0)]⟩
noncomputable def bm(v w:Value):Obj:=⟨.type "builtin_function_or_method",none, .fields #[v,w],#[]⟩
noncomputable def su(a:Nat):Obj:=⟨.type "super",none, .fields #[.ref a, .ref a, .ref a],#[]⟩
noncomputable def cl(n:Str)(b m:List Value)(d:Nat)(s:List Value)(t k j:Nat)(v:Value):Obj:=⟨.type "type",none, .cls ⟨n,b,m,d,n,true,[],s,false,none,false⟩,#[some (.ref t),none,some (.str n k),some (.str n j),some v,some (.bool true)]⟩
noncomputable def sb(o:Obj)(l:List Value):Obj:=match o with|⟨c,d, .cls x,t⟩=>⟨c,d, .cls {x with subclasses:=x.subclasses++l},t⟩|_=>o
noncomputable def gJ(l:List Obj):BT->Nat->BT:=@List.rec Obj (λ_=>BT->Nat->BT) (λt _=>t) (λo _ b t a=>b (t.ins a o) (Nat.succ a)) l
end HD
end
section
namespace K54
open PySem PySem.W PySem.Calls PyProof.Rows
noncomputable abbrev pw:Program:=PySem.Challenge.pw_keeper_k54_texts_refused
noncomputable def ht(i:Nat):Stmt:=pw.main.body.getD i (.Pass ⟨0,0,0,0⟩)
noncomputable def YK:Str:= .ofString "__name__"
noncomputable def vB:Str:= .ofString "__doc__"
noncomputable def Yx:Str:= .ofString "__package__"
noncomputable def YW:Str:= .ofString "__loader__"
noncomputable def Yp:Str:= .ofString "__spec__"
noncomputable def Zx9:Str:= .ofString "all"
noncomputable def aaR:Str:= .ofString "next"
noncomputable def Ob:Str:= .ofString "__main__"
noncomputable def D5:Str:= .ofString "__annotations__"
noncomputable def Cz:Str:= .ofString "__builtins__"
noncomputable def EI:Str:= .ofString "__file__"
noncomputable def aK:Str:= .ofString "/claim/cut.py"
noncomputable def Di:Str:= .ofString "__cached__"
noncomputable def PD:Str:= .ofString "<module>"
noncomputable def jB:Str:= .ofString "_wall"
noncomputable def Wq:Str:= .ofString "k"
noncomputable def aR:Str:= .ofString "keeper.errors"
noncomputable def lZ:Str:= .ofString "KeeperError"
noncomputable def b_:Str:= .ofString "__module__"
noncomputable def fB:Str:= .ofString "__qualname__"
noncomputable def cc:Str:= .ofString "__firstlineno__"
noncomputable def aF:Str:= .ofString "small_name"
noncomputable def b6:Str:= .ofString "__static_attributes__"
noncomputable def dZ:Str:= .ofString "self"
noncomputable def Kg:Str:= .ofString "KeeperError.small_name"
noncomputable def E9:Str:= .ofString "__weakref__"
noncomputable def l7:Str:= .ofString "Great"
noncomputable def Jc:Str:= .ofString "Great.small_name"
noncomputable def m5:Str:= .ofString "NoPlace"
noncomputable def K0:Str:= .ofString "NoPlace.small_name"
noncomputable def mz:Str:= .ofString "NoStep"
noncomputable def Jv:Str:= .ofString "NoStep.small_name"
noncomputable def nA:Str:= .ofString "Dry"
noncomputable def JU:Str:= .ofString "Dry.small_name"
noncomputable def mf:Str:= .ofString "NoVariable"
noncomputable def Jn:Str:= .ofString "NoVariable.small_name"
noncomputable def m_:Str:= .ofString "NoName"
noncomputable def HK:Str:= .ofString "NoName.small_name"
noncomputable def mM:Str:= .ofString "NotAll"
noncomputable def K2:Str:= .ofString "NotAll.small_name"
noncomputable def nh:Str:= .ofString "NotSome"
noncomputable def K_:Str:= .ofString "NotSome.small_name"
noncomputable def nD:Str:= .ofString "NotSame"
noncomputable def JI:Str:= .ofString "NotSame.small_name"
noncomputable def mI:Str:= .ofString "Unlike"
noncomputable def Kz:Str:= .ofString "Unlike.small_name"
noncomputable def mK:Str:= .ofString "NoText"
noncomputable def IM:Str:= .ofString "NoText.small_name"
noncomputable def m8:Str:= .ofString "NoWord"
noncomputable def Jr:Str:= .ofString "NoWord.small_name"
noncomputable def mO:Str:= .ofString "TwiceTold"
noncomputable def Kb:Str:= .ofString "TwiceTold.small_name"
noncomputable def tP:Str:= .ofString "NotClosed"
noncomputable def Lx:Str:= .ofString "NotClosed.small_name"
noncomputable def wc:Str:= .ofString "keeper.things"
noncomputable def JV:Str:= .ofString "MOST_KNOTS"
noncomputable def Ji:Str:= .ofString "MOST_DEEP"
noncomputable def Iv:Str:= .ofString "MOST_VARIABLE"
noncomputable def G7:Str:= .ofString "MOST_LETTERS"
noncomputable def KP:Str:= .ofString "LETTERS"
noncomputable def KU:Str:= .ofString "abcdefghijklmnopqrstuvwxyz"
noncomputable def IW:Str:= .ofString "KIND_WORDS"
noncomputable def Og:Str:= .ofString "nat"
noncomputable def P4:Str:= .ofString "none"
noncomputable def Hj:Str:= .ofString "some"
noncomputable def Oc:Str:= .ofString "same"
noncomputable def Kc:Str:= .ofString "KIDS_DUE"
noncomputable def XY:Str:= .ofString "var"
noncomputable def Oq:Str:= .ofString "fun"
noncomputable def WJ:Str:= .ofString "app"
noncomputable def Xw:Str:= .ofString "zero"
noncomputable def Pj:Str:= .ofString "rec"
noncomputable def V5:Str:= .ofString "like"
noncomputable def OQ:Str:= .ofString "carry"
noncomputable def Xo:Str:= .ofString "never"
noncomputable def V1:Str:= .ofString "pair"
noncomputable def Xc:Str:= .ofString "first"
noncomputable def W2:Str:= .ofString "second"
noncomputable def Dp:Str:= .ofString "name"
noncomputable def iA:Str:= .ofString "kind"
noncomputable def fc:Str:= .ofString "term"
noncomputable def OI:Str:= .ofString "BINDER_OVER"
noncomputable def mD:Str:= .ofString "is_name"
noncomputable def l9:Str:= .ofString "is_vast"
noncomputable def ni:Str:= .ofString "kids_of"
noncomputable def Er:Str:= .ofString "thing"
noncomputable def mC:Str:= .ofString "top_variable"
noncomputable def l5:Str:= .ofString "bounded"
noncomputable def UW:Str:= .ofString "keeper.words"
noncomputable def mU:Str:= .ofString "words_of"
noncomputable def eX:Str:= .ofString "keeper.reading"
noncomputable def O4:Str:= .ofString "FIGURES"
noncomputable def NM:Str:= .ofString "0123456789"
noncomputable def NX:Str:= .ofString "MOST_FIGURE"
noncomputable def kL:Str:= .ofString "Form"
noncomputable def Ad:Str:= .ofString "__init__"
noncomputable def zo:Str:= .ofString "binds_here"
noncomputable def Av:Str:= .ofString "is_full"
noncomputable def zP:Str:= .ofString "take"
noncomputable def vH:Str:= .ofString "closed"
noncomputable def wm:Str:= .ofString "word"
noncomputable def DG:Str:= .ofString "due"
noncomputable def KQ:Str:= .ofString "Form.__init__"
noncomputable def Ho:Str:= .ofString "Form.binds_here"
noncomputable def K7:Str:= .ofString "Form.is_full"
noncomputable def IQ:Str:= .ofString "Form.take"
noncomputable def Iq:Str:= .ofString "Form.closed"
noncomputable def V_:Str:= .ofString "parts"
noncomputable def OC:Str:= .ofString "__dict__"
noncomputable def mF:Str:= .ofString "form_of"
noncomputable def Xz:Str:= .ofString "head"
noncomputable def tS:Str:= .ofString "thing_named"
noncomputable def IY:Str:= .ofString "forms"
noncomputable def A2:Str:= .ofString "names"
noncomputable def W4:Str:= .ofString "binders"
noncomputable def Pb:Str:= .ofString "form"
noncomputable def tj:Str:= .ofString "is_figure"
noncomputable def uO:Str:= .ofString "count_of"
noncomputable def Wa:Str:= .ofString "number"
noncomputable def Wz:Str:= .ofString "count"
noncomputable def uF:Str:= .ofString "leaf_of"
noncomputable def sZ:Str:= .ofString "read_thing"
noncomputable def Hx:Str:= .ofString "text"
noncomputable def XB:Str:= .ofString "words"
noncomputable def XM:Str:= .ofString "whole"
noncomputable def UC:Str:= .ofString "place"
noncomputable def uK:Str:= .ofString "read_term"
noncomputable def sH:Str:= .ofString "read_kind"
noncomputable def fO:Str:= .ofString "law_keeper_k54_texts_refused"
noncomputable def uo:Str:= .ofString "_law_cell_at"
noncomputable def Pt:Str:= .ofString "_law_script"
noncomputable def vI:Str:= .ofString "_law_k"
noncomputable def sT:Str:= .ofString "_law_reserved"
noncomputable def IP:Str:= .ofString "_law_some"
noncomputable def uE:Str:= .ofString "_law_name_by"
noncomputable def z8:Str:= .ofString "_law_cell"
noncomputable def uh:Str:= .ofString "_law_word"
noncomputable def IS:Str:= .ofString "_law_at"
noncomputable def sF:Str:= .ofString "_law_shape"
noncomputable def tq:Str:= .ofString "_law_bound"
noncomputable def tY:Str:= .ofString "_law_named"
noncomputable def Hw:Str:= .ofString "_law_scope"
noncomputable def sL:Str:= .ofString "_law_leaf"
noncomputable def KO:Str:= .ofString "_law_want"
noncomputable def Om:Str:= .ofString "_law_state"
noncomputable def Yk:Str:= .ofString "_law_many"
noncomputable def VP:Str:= .ofString "_law_thing"
noncomputable def t_:Str:= .ofString "_law_grown"
noncomputable def Ww:Str:= .ofString "_law_deep"
noncomputable def X3:Str:= .ofString "_law_forms"
noncomputable def HL:Str:= .ofString "_law_told"
noncomputable def Xr:Str:= .ofString "_law_under"
noncomputable def N2:Str:= .ofString "_law_binder"
noncomputable def Vt:Str:= .ofString "_law_things"
noncomputable def Xm:Str:= .ofString "_law_above"
noncomputable def Yn:Str:= .ofString "_law_part"
noncomputable def sO:Str:= .ofString "_law_joined"
noncomputable def OK:Str:= .ofString "_law_line"
noncomputable def XJ:Str:= .ofString "_law_gap"
noncomputable def sr:Str:= .ofString "_law_refused"
noncomputable def W6:Str:= .ofString "_law_names"
noncomputable def Uv:Str:= .ofString "e"
noncomputable def uf:Str:= .ofString "_law_wrapped"
noncomputable def UQ:Str:= .ofString "_law_over"
noncomputable def uc:Str:= .ofString "_law_odd"
noncomputable def Vc:Str:= .ofString "_law_odd_here"
noncomputable def tZ:Str:= .ofString "_law_spoilt"
noncomputable def uk:Str:= .ofString "law"
variable(P:Params)
noncomputable def dD:Env:={scope:=pw.main.scope,locals:=mainNs,globals:=mainNs,cells:=[],code:=(.ref 13),frame:=some (nat_lit 14)}
noncomputable def bY:Code:= .body (behindTheImports pw) dD
noncomputable def dn:List Frame:=[topFrame ⟨0,0,0,0⟩]
noncomputable abbrev Ys:World->OsState->Shared:=HD.WD boot_heap boot_drawn boot_toks
def ae:=HD.tp []
def aA:=HD.fl []
def K8:=HD.cd PD PD aK 182 183 184 1 0 0 0 0 11 false 181 12 .none .none .none .none 185 1 186
def HR:=HD.fm 13 3 3 Ob 164
noncomputable def VO(r:List (Obj)):List (Obj):=PySem.W.boot_o_0 P::PySem.W.boot_o_1 P::PySem.W.boot_o_2 P::PySem.W.boot_o_3 P::PySem.W.boot_o_4 P::PySem.W.boot_o_5 P::PySem.W.boot_o_6 P::PySem.W.boot_o_7 P::PySem.W.boot_o_8 P::PySem.W.boot_o_9 P::PySem.W.boot_o_10 P::ae::r
noncomputable def Vf(r:List (Obj)):List (Obj):=aA::K8::HR::r
noncomputable def ZHa(P:Params):Heap:=⟨Array.mk (VO P (Vf [])),⟨[],[],[],0,[],[],false,#[],[],0,false,false,false,(.ofNat 0),[(.ofNat 2000),(.ofNat 10),(.ofNat 10)],false,0,true,[],[],0,false⟩⟩
noncomputable def Zda:Drawn:=⟨0,0,0,0⟩
noncomputable def Zka:Nat:=nat_lit 187
noncomputable abbrev Ua:World->OsState->Shared:=HD.WD ZHa Zda Zka
noncomputable def Zqa:HD.ig (Option (Shared×Thread)):=λw=>(λos=>topGo treeTable pw w (nat_lit 11) (some (.ref 6)) (nat_lit 12) (Ys w os) (topStub pw),λos=>some (Ua w os,Thread.mk (denote treeTable bY) bY ⟨0,0,0,0⟩ dn))
theorem Q0:HD.pre pw (nat_lit 11) (some (.ref 6)) (nat_lit 12) Ys Ua (topStub pw) (Thread.mk (denote treeTable bY) bY ⟨0,0,0,0⟩ dn)=Zqa:=by kernel_rfl
name_quick Px for Zqa by Q0
theorem Zia(w:World):(Fast.Px w).1=(Fast.Px w).2:=by kernel_rfl
theorem Zha:HD.Ok (HD.pre pw (nat_lit 11) (some (.ref 6)) (nat_lit 12) Ys Ua (topStub pw) (Thread.mk (denote treeTable bY) bY ⟨0,0,0,0⟩ dn)):=HD.gk Fast.Px_eq Zia
noncomputable def UK(r:List (Obj)):List (Obj):=PySem.W.boot_o_0 P::PySem.W.boot_o_1 P::PySem.W.boot_o_2 P::PySem.W.boot_o_3 P::PySem.W.boot_o_4 P::PySem.W.boot_o_5 P::PySem.W.boot_o_6 P::PySem.W.boot_o_7 P::PySem.W.boot_o_8 P::PySem.W.boot_o_9 P::PySem.W.boot_o_10 P::ae::r
noncomputable def VM(r:List (Obj)):List (Obj):=aA::K8::HR::r
noncomputable def ZTb(P:Params):BT:=HD.mkT (UK P (VM []))
noncomputable def gC:Life:=⟨[],[],[],0,[],[],false,#[],[],0,false,false,false,(.ofNat 0),[(.ofNat 2000),(.ofNat 10),(.ofNat 10)],false,0,true,[],[],0,false⟩
noncomputable abbrev Uu(w:World)(os:OsState):SharedT:=⟨ZTb w.params,nat_lit 15,gC,Array.mk [],⟨0,0,0,0⟩,nat_lit 187,os⟩
noncomputable def Zqb:HD.ig (Option (Flow×Shared×Code×Pos)):=λw=>(λos=>segRun treeTable pw w (nat_lit 11) (some (.ref 6)) (nat_lit 1) (nat_lit 1) (Ua w os) (blockOf (behindTheImports pw) dD bY ⟨0,0,0,0⟩ dn),λos=>some (Flow.next,(Uu w os).abs,bY,⟨0,0,0,0⟩))
theorem Tn:HD.blk pw (nat_lit 11) (some (.ref 6)) (nat_lit 1) Ua Uu (behindTheImports pw) dD bY ⟨0,0,0,0⟩ ⟨0,0,0,0⟩ dn=Zqb:=by kernel_rfl
name_quick Pc for Zqb by Tn
theorem Zib(w:World):(Fast.Pc w).1=(Fast.Pc w).2:=by kernel_rfl
theorem Zhb:HD.Ok (HD.blk pw (nat_lit 11) (some (.ref 6)) (nat_lit 1) Ua Uu (behindTheImports pw) dD bY ⟨0,0,0,0⟩ ⟨0,0,0,0⟩ dn):=HD.gk Fast.Pc_eq Zib
def U7:=HD.dc [HD.e P YK 165 (.str aR 194),HD.e P vB 166 .none,HD.e P Yx 167 .none,HD.e P YW 168 (.builtin "__main__.__loader__#opaque"),HD.e P Yp 169 .none,HD.e P D5 170 (.ref 6),HD.e P Cz 171 (.ref 4),HD.e P EI 173 (.str aK 172),HD.e P Di 174 .none,HD.e P jB 193 (.ref 21),HD.e P lZ 220 (.ref 38)] 11
def P9:=HD.fl [(HD.i 1),(HD.i 0),(.ref 20),(HD.i 5),(HD.i 0),(.ref 27)]
def Fz:=HD.tp [(.str Wq 190)]
def OD:=HD.fs jB jB (ht 0)
def DW:=HD.cd jB jB aK 187 188 189 1 1 0 0 3 15 true 181 16 .none (.ref 17) (.ref 18) (.ref 19) 191 1 192
def DF:=HD.fu jB jB (ht 0) Ob 164 20
def Eg:=HD.tp [(.type "ValueError")]
def b9:=HD.bm (.builtin "type.__prepare__") (.type "type")
def Ou:=HD.dc [HD.e P b_ 203 (.str aR 194),HD.e P fB 205 (.str lZ 204),HD.e P cc 207 (.int (.ofNat 5) 206),HD.e P aF 214 (.ref 35),HD.e P b6 215 (.ref 36)] 5
def Po:=HD.fl [(HD.i 7),(HD.i 4),(.ref 34)]
def Pn:=HD.cd lZ lZ aK 198 199 200 5 0 0 0 0 25 false 181 26 .none .none .none .none 201 5 202
def PV:=HD.fm 27 3 24 aR 194
def EW:=HD.tp [(.str dZ 211)]
def Of:=HD.fs aF Kg (L2.inClass (ht 2) 0)
def EU:=HD.cd aF Kg aK 208 209 210 7 1 0 0 3 29 true 181 30 .none (.ref 31) (.ref 32) (.ref 33) 212 7 213
def Dc:=HD.fu aF Kg (L2.inClass (ht 2) 0) aR 194 34
def CI:=HD.dc [HD.e P b_ 203 (.str aR 194),HD.e P cc 207 (.int (.ofNat 5) 206),HD.e P aF 214 (.ref 35),HD.e P b6 215 (.ref 36),HD.e P E9 217 (.ref 39),HD.e P vB 218 .none] 3
def O7:=HD.cl lZ [(.type "ValueError")] [(.ref 38),(.type "ValueError"),(.type "Exception"),(.type "BaseException"),(.type "object")] 37 [] 22 196 204 (.builtin "ValueError.__new__")
noncomputable def CU:Obj:=⟨(.type "getset_descriptor"),none,(.fields #[(.str E9 216),(.ref 38),(.builtin "ExceptionGroup.__weakref__"), .none]),#[]⟩
def NY:=HD.su 38
def P7:=HD.bm (.builtin "object.__init_subclass__") (.ref 38)
noncomputable def YO:List Stmt:=[ht 0,ht 1,ht 2]
noncomputable def ZT1(P:Params):BT:=(HD.gJ [ae,aA,Fz,ae,OD,DW,DF,Eg,b9,Ou P,ae,Po,Pn,PV,ae,aA,EW,ae,Of,EU,Dc,ae,CI P,O7,CU,NY,P7] (((ZTb P).ins (nat_lit 3) (U7 P)).ins (nat_lit 12) (P9)) (nat_lit 15))
noncomputable abbrev Us(w:World)(os:OsState):SharedT:=⟨ZT1 w.params,nat_lit 42,gC,Array.mk [],⟨0,0,0,0⟩,nat_lit 221,os⟩
noncomputable def Zq1:HD.ig (HD.F4):=λw=>(λos=>segRunT treeTable pw w (nat_lit 11) (some (.ref 6)) (nat_lit 1) (nat_lit 255) (Uu w os) (piecesOf YO dD bY ⟨0,0,0,0⟩ dn),λos=>some (Flow.next,Us w os,bY,⟨5,0,8,16⟩))
theorem TL:HD.seg pw (nat_lit 11) (some (.ref 6)) (nat_lit 255) Uu Us YO dD bY ⟨0,0,0,0⟩ ⟨5,0,8,16⟩ dn=Zq1:=by kernel_rfl
name_quick O9 for Zq1 by TL
theorem Zi1(w:World):(Fast.O9 w).1=(Fast.O9 w).2:=by kernel_rfl
theorem Zh1:HD.Ok (HD.seg pw (nat_lit 11) (some (.ref 6)) (nat_lit 255) Uu Us YO dD bY ⟨0,0,0,0⟩ ⟨5,0,8,16⟩ dn):=HD.gk Fast.O9_eq Zi1
def UZ:=HD.dm (U7 P) [HD.e P l7 243 (.ref 58)] 12
def NO:=HD.fa (P9) [(HD.i 9),(HD.i 0),(.ref 47)]
def NQ:=HD.sb (O7) [(.ref 58)]
def aW:=HD.tp [(.ref 38)]
def Pz:=HD.dc [HD.e P b_ 228 (.str aR 194),HD.e P fB 230 (.str l7 229),HD.e P cc 232 (.int (.ofNat 9) 231),HD.e P aF 239 (.ref 55),HD.e P b6 240 (.ref 56)] 5
def N4:=HD.fl [(HD.i 11),(HD.i 4),(.ref 54)]
def P5:=HD.cd l7 l7 aK 223 224 225 9 0 0 0 0 45 false 181 46 .none .none .none .none 226 9 227
def N8:=HD.fm 47 3 44 aR 194
def Ck:=HD.tp [(.str dZ 236)]
def P8:=HD.fs aF Jc (L2.inClass (ht 3) 0)
def EL:=HD.cd aF Jc aK 233 234 235 11 1 0 0 3 49 true 181 50 .none (.ref 51) (.ref 52) (.ref 53) 237 11 238
def DI:=HD.fu aF Jc (L2.inClass (ht 3) 0) aR 194 54
def Dq:=HD.dc [HD.e P b_ 228 (.str aR 194),HD.e P cc 232 (.int (.ofNat 9) 231),HD.e P aF 239 (.ref 55),HD.e P b6 240 (.ref 56),HD.e P vB 241 .none] 2
def EE:=HD.cl l7 [(.ref 38)] [(.ref 58),(.ref 38),(.type "ValueError"),(.type "Exception"),(.type "BaseException"),(.type "object")] 57 [] 42 221 229 (.builtin "ValueError.__new__")
def Pp:=HD.su 58
def Qc:=HD.bm (.builtin "object.__init_subclass__") (.ref 58)
noncomputable def YS:List Stmt:=[ht 3]
noncomputable def ZT2(P:Params):BT:=(HD.gJ [aW,b9,Pz P,ae,N4,P5,N8,ae,aA,Ck,ae,P8,EL,DI,ae,Dq P,EE,Pp,Qc] ((((ZT1 P).ins (nat_lit 3) (UZ P)).ins (nat_lit 12) (NO)).ins (nat_lit 38) (NQ)) (nat_lit 42))
noncomputable abbrev T9(w:World)(os:OsState):SharedT:=⟨ZT2 w.params,nat_lit 61,gC,Array.mk [],⟨0,0,0,0⟩,nat_lit 244,os⟩
noncomputable def Zq2:HD.ig (HD.F4):=λw=>(λos=>segRunT treeTable pw w (nat_lit 11) (some (.ref 6)) (nat_lit 1) (nat_lit 244) (Us w os) (piecesOf YS dD bY ⟨5,0,8,16⟩ dn),λos=>some (Flow.next,T9 w os,bY,⟨9,0,12,16⟩))
theorem SR:HD.seg pw (nat_lit 11) (some (.ref 6)) (nat_lit 244) Us T9 YS dD bY ⟨5,0,8,16⟩ ⟨9,0,12,16⟩ dn=Zq2:=by kernel_rfl
name_quick NR for Zq2 by SR
theorem Zi2(w:World):(Fast.NR w).1=(Fast.NR w).2:=by kernel_rfl
theorem Zh2:HD.Ok (HD.seg pw (nat_lit 11) (some (.ref 6)) (nat_lit 244) Us T9 YS dD bY ⟨5,0,8,16⟩ ⟨9,0,12,16⟩ dn):=HD.gk Fast.NR_eq Zi2
def Yj:=HD.dm (UZ P) [HD.e P m5 266 (.ref 77)] 13
def Py:=HD.fa (NO) [(HD.i 13),(HD.i 0),(.ref 66)]
def Pu:=HD.sb (NQ) [(.ref 77)]
def Oa:=HD.dc [HD.e P b_ 251 (.str aR 194),HD.e P fB 253 (.str m5 252),HD.e P cc 255 (.int (.ofNat 13) 254),HD.e P aF 262 (.ref 74),HD.e P b6 263 (.ref 75)] 5
def PL:=HD.fl [(HD.i 15),(HD.i 4),(.ref 73)]
def Pl:=HD.cd m5 m5 aK 246 247 248 13 0 0 0 0 64 false 181 65 .none .none .none .none 249 13 250
def Qd:=HD.fm 66 3 63 aR 194
def EV:=HD.tp [(.str dZ 259)]
def PU:=HD.fs aF K0 (L2.inClass (ht 4) 0)
def Ew:=HD.cd aF K0 aK 256 257 258 15 1 0 0 3 68 true 181 69 .none (.ref 70) (.ref 71) (.ref 72) 260 15 261
def Dg:=HD.fu aF K0 (L2.inClass (ht 4) 0) aR 194 73
def E1:=HD.dc [HD.e P b_ 251 (.str aR 194),HD.e P cc 255 (.int (.ofNat 13) 254),HD.e P aF 262 (.ref 74),HD.e P b6 263 (.ref 75),HD.e P vB 264 .none] 2
def Fx:=HD.cl m5 [(.ref 38)] [(.ref 77),(.ref 38),(.type "ValueError"),(.type "Exception"),(.type "BaseException"),(.type "object")] 76 [] 61 244 252 (.builtin "ValueError.__new__")
def Pq:=HD.su 77
def OM:=HD.bm (.builtin "object.__init_subclass__") (.ref 77)
noncomputable def Y_:List Stmt:=[ht 4]
noncomputable def ZT3(P:Params):BT:=(HD.gJ [aW,b9,Oa P,ae,PL,Pl,Qd,ae,aA,EV,ae,PU,Ew,Dg,ae,E1 P,Fx,Pq,OM] ((((ZT2 P).ins (nat_lit 3) (Yj P)).ins (nat_lit 12) (Py)).ins (nat_lit 38) (Pu)) (nat_lit 61))
noncomputable abbrev Uj(w:World)(os:OsState):SharedT:=⟨ZT3 w.params,nat_lit 80,gC,Array.mk [],⟨0,0,0,0⟩,nat_lit 267,os⟩
noncomputable def Zq3:HD.ig (HD.F4):=λw=>(λos=>segRunT treeTable pw w (nat_lit 11) (some (.ref 6)) (nat_lit 1) (nat_lit 244) (T9 w os) (piecesOf Y_ dD bY ⟨9,0,12,16⟩ dn),λos=>some (Flow.next,Uj w os,bY,⟨13,0,16,16⟩))
theorem Qq:HD.seg pw (nat_lit 11) (some (.ref 6)) (nat_lit 244) T9 Uj Y_ dD bY ⟨9,0,12,16⟩ ⟨13,0,16,16⟩ dn=Zq3:=by kernel_rfl
name_quick PY for Zq3 by Qq
theorem Zi3(w:World):(Fast.PY w).1=(Fast.PY w).2:=by kernel_rfl
theorem Zh3:HD.Ok (HD.seg pw (nat_lit 11) (some (.ref 6)) (nat_lit 244) T9 Uj Y_ dD bY ⟨9,0,12,16⟩ ⟨13,0,16,16⟩ dn):=HD.gk Fast.PY_eq Zi3
def WI:=HD.dm (Yj P) [HD.e P mz 289 (.ref 96)] 14
def OG:=HD.fa (Py) [(HD.i 17),(HD.i 0),(.ref 85)]
def OW:=HD.sb (Pu) [(.ref 96)]
def OA:=HD.dc [HD.e P b_ 274 (.str aR 194),HD.e P fB 276 (.str mz 275),HD.e P cc 278 (.int (.ofNat 17) 277),HD.e P aF 285 (.ref 93),HD.e P b6 286 (.ref 94)] 5
def O2:=HD.fl [(HD.i 19),(HD.i 4),(.ref 92)]
def PR:=HD.cd mz mz aK 269 270 271 17 0 0 0 0 83 false 181 84 .none .none .none .none 272 17 273
def PZ:=HD.fm 85 3 82 aR 194
def Fi:=HD.tp [(.str dZ 282)]
def OU:=HD.fs aF Jv (L2.inClass (ht 5) 0)
def Dk:=HD.cd aF Jv aK 279 280 281 19 1 0 0 3 87 true 181 88 .none (.ref 89) (.ref 90) (.ref 91) 283 19 284
def Ez:=HD.fu aF Jv (L2.inClass (ht 5) 0) aR 194 92
def Ft:=HD.dc [HD.e P b_ 274 (.str aR 194),HD.e P cc 278 (.int (.ofNat 17) 277),HD.e P aF 285 (.ref 93),HD.e P b6 286 (.ref 94),HD.e P vB 287 .none] 2
def C1:=HD.cl mz [(.ref 38)] [(.ref 96),(.ref 38),(.type "ValueError"),(.type "Exception"),(.type "BaseException"),(.type "object")] 95 [] 80 267 275 (.builtin "ValueError.__new__")
def Pe:=HD.su 96
def NN:=HD.bm (.builtin "object.__init_subclass__") (.ref 96)
noncomputable def Zf:List Stmt:=[ht 5]
noncomputable def ZT4(P:Params):BT:=(HD.gJ [aW,b9,OA P,ae,O2,PR,PZ,ae,aA,Fi,ae,OU,Dk,Ez,ae,Ft P,C1,Pe,NN] ((((ZT3 P).ins (nat_lit 3) (WI P)).ins (nat_lit 12) (OG)).ins (nat_lit 38) (OW)) (nat_lit 80))
noncomputable abbrev T8(w:World)(os:OsState):SharedT:=⟨ZT4 w.params,nat_lit 99,gC,Array.mk [],⟨0,0,0,0⟩,nat_lit 290,os⟩
noncomputable def Zq4:HD.ig (HD.F4):=λw=>(λos=>segRunT treeTable pw w (nat_lit 11) (some (.ref 6)) (nat_lit 1) (nat_lit 244) (Uj w os) (piecesOf Zf dD bY ⟨13,0,16,16⟩ dn),λos=>some (Flow.next,T8 w os,bY,⟨17,0,20,16⟩))
theorem SE:HD.seg pw (nat_lit 11) (some (.ref 6)) (nat_lit 244) Uj T8 Zf dD bY ⟨13,0,16,16⟩ ⟨17,0,20,16⟩ dn=Zq4:=by kernel_rfl
name_quick Od for Zq4 by SE
theorem Zi4(w:World):(Fast.Od w).1=(Fast.Od w).2:=by kernel_rfl
theorem Zh4:HD.Ok (HD.seg pw (nat_lit 11) (some (.ref 6)) (nat_lit 244) Uj T8 Zf dD bY ⟨13,0,16,16⟩ ⟨17,0,20,16⟩ dn):=HD.gk Fast.Od_eq Zi4
def VX:=HD.dm (WI P) [HD.e P nA 312 (.ref 115)] 15
def Oe:=HD.fa (OG) [(HD.i 21),(HD.i 0),(.ref 104)]
def Oj:=HD.sb (OW) [(.ref 115)]
def HQ:=HD.dc [HD.e P b_ 297 (.str aR 194),HD.e P fB 299 (.str nA 298),HD.e P cc 301 (.int (.ofNat 21) 300),HD.e P aF 308 (.ref 112),HD.e P b6 309 (.ref 113)] 5
def JQ:=HD.fl [(HD.i 23),(HD.i 4),(.ref 111)]
def JG:=HD.cd nA nA aK 292 293 294 21 0 0 0 0 102 false 181 103 .none .none .none .none 295 21 296
def Lq:=HD.fm 104 3 101 aR 194
def wX:=HD.tp [(.str dZ 305)]
def JP:=HD.fs aF JU (L2.inClass (ht 6) 0)
def xW:=HD.cd aF JU aK 302 303 304 23 1 0 0 3 106 true 181 107 .none (.ref 108) (.ref 109) (.ref 110) 306 23 307
def zd:=HD.fu aF JU (L2.inClass (ht 6) 0) aR 194 111
def yw:=HD.dc [HD.e P b_ 297 (.str aR 194),HD.e P cc 301 (.int (.ofNat 21) 300),HD.e P aF 308 (.ref 112),HD.e P b6 309 (.ref 113),HD.e P vB 310 .none] 2
def xC:=HD.cl nA [(.ref 38)] [(.ref 115),(.ref 38),(.type "ValueError"),(.type "Exception"),(.type "BaseException"),(.type "object")] 114 [] 99 290 298 (.builtin "ValueError.__new__")
def Hr:=HD.su 115
def Lw:=HD.bm (.builtin "object.__init_subclass__") (.ref 115)
noncomputable def Yo:List Stmt:=[ht 6]
noncomputable def ZT5(P:Params):BT:=(HD.gJ [aW,b9,HQ P,ae,JQ,JG,Lq,ae,aA,wX,ae,JP,xW,zd,ae,yw P,xC,Hr,Lw] ((((ZT4 P).ins (nat_lit 3) (VX P)).ins (nat_lit 12) (Oe)).ins (nat_lit 38) (Oj)) (nat_lit 99))
noncomputable abbrev T_(w:World)(os:OsState):SharedT:=⟨ZT5 w.params,nat_lit 118,gC,Array.mk [],⟨0,0,0,0⟩,nat_lit 313,os⟩
noncomputable def Zq5:HD.ig (HD.F4):=λw=>(λos=>segRunT treeTable pw w (nat_lit 11) (some (.ref 6)) (nat_lit 1) (nat_lit 244) (T8 w os) (piecesOf Yo dD bY ⟨17,0,20,16⟩ dn),λos=>some (Flow.next,T_ w os,bY,⟨21,0,24,16⟩))
theorem Te:HD.seg pw (nat_lit 11) (some (.ref 6)) (nat_lit 244) T8 T_ Yo dD bY ⟨17,0,20,16⟩ ⟨21,0,24,16⟩ dn=Zq5:=by kernel_rfl
name_quick Pg for Zq5 by Te
theorem Zi5(w:World):(Fast.Pg w).1=(Fast.Pg w).2:=by kernel_rfl
theorem Zh5:HD.Ok (HD.seg pw (nat_lit 11) (some (.ref 6)) (nat_lit 244) T8 T_ Yo dD bY ⟨17,0,20,16⟩ ⟨21,0,24,16⟩ dn):=HD.gk Fast.Pg_eq Zi5
def Yi:=HD.dm (VX P) [HD.e P mf 335 (.ref 134)] 16
def OY:=HD.fa (Oe) [(HD.i 25),(HD.i 0),(.ref 123)]
def Ol:=HD.sb (Oj) [(.ref 134)]
def Hd:=HD.dc [HD.e P b_ 320 (.str aR 194),HD.e P fB 322 (.str mf 321),HD.e P cc 324 (.int (.ofNat 25) 323),HD.e P aF 331 (.ref 131),HD.e P b6 332 (.ref 132)] 5
def Jp:=HD.fl [(HD.i 27),(HD.i 4),(.ref 130)]
def Ks:=HD.cd mf mf aK 315 316 317 25 0 0 0 0 121 false 181 122 .none .none .none .none 318 25 319
def Li:=HD.fm 123 3 120 aR 194
def xw:=HD.tp [(.str dZ 328)]
def Kr:=HD.fs aF Jn (L2.inClass (ht 7) 0)
def xG:=HD.cd aF Jn aK 325 326 327 27 1 0 0 3 125 true 181 126 .none (.ref 127) (.ref 128) (.ref 129) 329 27 330
def wN:=HD.fu aF Jn (L2.inClass (ht 7) 0) aR 194 130
def wM:=HD.dc [HD.e P b_ 320 (.str aR 194),HD.e P cc 324 (.int (.ofNat 25) 323),HD.e P aF 331 (.ref 131),HD.e P b6 332 (.ref 132),HD.e P vB 333 .none] 2
def xr:=HD.cl mf [(.ref 38)] [(.ref 134),(.ref 38),(.type "ValueError"),(.type "Exception"),(.type "BaseException"),(.type "object")] 133 [] 118 313 321 (.builtin "ValueError.__new__")
def KZ:=HD.su 134
def Lz:=HD.bm (.builtin "object.__init_subclass__") (.ref 134)
noncomputable def YF:List Stmt:=[ht 7]
noncomputable def ZT6(P:Params):BT:=(HD.gJ [aW,b9,Hd P,ae,Jp,Ks,Li,ae,aA,xw,ae,Kr,xG,wN,ae,wM P,xr,KZ,Lz] ((((ZT5 P).ins (nat_lit 3) (Yi P)).ins (nat_lit 12) (OY)).ins (nat_lit 38) (Ol)) (nat_lit 118))
noncomputable abbrev T4(w:World)(os:OsState):SharedT:=⟨ZT6 w.params,nat_lit 137,gC,Array.mk [],⟨0,0,0,0⟩,nat_lit 336,os⟩
noncomputable def Zq6:HD.ig (HD.F4):=λw=>(λos=>segRunT treeTable pw w (nat_lit 11) (some (.ref 6)) (nat_lit 1) (nat_lit 244) (T_ w os) (piecesOf YF dD bY ⟨21,0,24,16⟩ dn),λos=>some (Flow.next,T4 w os,bY,⟨25,0,28,16⟩))
theorem Sd:HD.seg pw (nat_lit 11) (some (.ref 6)) (nat_lit 244) T_ T4 YF dD bY ⟨21,0,24,16⟩ ⟨25,0,28,16⟩ dn=Zq6:=by kernel_rfl
name_quick PQ for Zq6 by Sd
theorem Zi6(w:World):(Fast.PQ w).1=(Fast.PQ w).2:=by kernel_rfl
theorem Zh6:HD.Ok (HD.seg pw (nat_lit 11) (some (.ref 6)) (nat_lit 244) T_ T4 YF dD bY ⟨21,0,24,16⟩ ⟨25,0,28,16⟩ dn):=HD.gk Fast.PQ_eq Zi6
def V3:=HD.dm (Yi P) [HD.e P m_ 358 (.ref 153)] 17
def Pm:=HD.fa (OY) [(HD.i 29),(HD.i 0),(.ref 142)]
def Pd:=HD.sb (Ol) [(.ref 153)]
def JO:=HD.dc [HD.e P b_ 343 (.str aR 194),HD.e P fB 345 (.str m_ 344),HD.e P cc 347 (.int (.ofNat 29) 346),HD.e P aF 354 (.ref 150),HD.e P b6 355 (.ref 151)] 5
def KY:=HD.fl [(HD.i 31),(HD.i 4),(.ref 149)]
def IZ:=HD.cd m_ m_ aK 338 339 340 29 0 0 0 0 140 false 181 141 .none .none .none .none 341 29 342
def J_:=HD.fm 142 3 139 aR 194
def yR:=HD.tp [(.str dZ 351)]
def IH:=HD.fs aF HK (L2.inClass (ht 8) 0)
def yu:=HD.cd aF HK aK 348 349 350 31 1 0 0 3 144 true 181 145 .none (.ref 146) (.ref 147) (.ref 148) 352 31 353
def ym:=HD.fu aF HK (L2.inClass (ht 8) 0) aR 194 149
def yY:=HD.dc [HD.e P b_ 343 (.str aR 194),HD.e P cc 347 (.int (.ofNat 29) 346),HD.e P aF 354 (.ref 150),HD.e P b6 355 (.ref 151),HD.e P vB 356 .none] 2
def yS:=HD.cl m_ [(.ref 38)] [(.ref 153),(.ref 38),(.type "ValueError"),(.type "Exception"),(.type "BaseException"),(.type "object")] 152 [] 137 336 344 (.builtin "ValueError.__new__")
def ID:=HD.su 153
def Ja:=HD.bm (.builtin "object.__init_subclass__") (.ref 153)
noncomputable def YC:List Stmt:=[ht 8]
noncomputable def ZT7(P:Params):BT:=(HD.gJ [aW,b9,JO P,ae,KY,IZ,J_,ae,aA,yR,ae,IH,yu,ym,ae,yY P,yS,ID,Ja] ((((ZT6 P).ins (nat_lit 3) (V3 P)).ins (nat_lit 12) (Pm)).ins (nat_lit 38) (Pd)) (nat_lit 137))
noncomputable abbrev Uc(w:World)(os:OsState):SharedT:=⟨ZT7 w.params,nat_lit 156,gC,Array.mk [],⟨0,0,0,0⟩,nat_lit 359,os⟩
noncomputable def Zq7:HD.ig (HD.F4):=λw=>(λos=>segRunT treeTable pw w (nat_lit 11) (some (.ref 6)) (nat_lit 1) (nat_lit 244) (T4 w os) (piecesOf YC dD bY ⟨25,0,28,16⟩ dn),λos=>some (Flow.next,Uc w os,bY,⟨29,0,32,16⟩))
theorem RH:HD.seg pw (nat_lit 11) (some (.ref 6)) (nat_lit 244) T4 Uc YC dD bY ⟨25,0,28,16⟩ ⟨29,0,32,16⟩ dn=Zq7:=by kernel_rfl
name_quick N6 for Zq7 by RH
theorem Zi7(w:World):(Fast.N6 w).1=(Fast.N6 w).2:=by kernel_rfl
theorem Zh7:HD.Ok (HD.seg pw (nat_lit 11) (some (.ref 6)) (nat_lit 244) T4 Uc YC dD bY ⟨25,0,28,16⟩ ⟨29,0,32,16⟩ dn):=HD.gk Fast.N6_eq Zi7
def X8:=HD.dm (V3 P) [HD.e P mM 381 (.ref 172)] 18
def OH:=HD.fa (Pm) [(HD.i 33),(HD.i 0),(.ref 161)]
def NS:=HD.sb (Pd) [(.ref 172)]
def Ip:=HD.dc [HD.e P b_ 366 (.str aR 194),HD.e P fB 368 (.str mM 367),HD.e P cc 370 (.int (.ofNat 33) 369),HD.e P aF 377 (.ref 169),HD.e P b6 378 (.ref 170)] 5
def Ki:=HD.fl [(HD.i 35),(HD.i 4),(.ref 168)]
def HZ:=HD.cd mM mM aK 361 362 363 33 0 0 0 0 159 false 181 160 .none .none .none .none 364 33 365
def Il:=HD.fm 161 3 158 aR 194
def wR:=HD.tp [(.str dZ 374)]
def Jo:=HD.fs aF K2 (L2.inClass (ht 9) 0)
def yK:=HD.cd aF K2 aK 371 372 373 35 1 0 0 3 163 true 181 164 .none (.ref 165) (.ref 166) (.ref 167) 375 35 376
def w6:=HD.fu aF K2 (L2.inClass (ht 9) 0) aR 194 168
def wV:=HD.dc [HD.e P b_ 366 (.str aR 194),HD.e P cc 370 (.int (.ofNat 33) 369),HD.e P aF 377 (.ref 169),HD.e P b6 378 (.ref 170),HD.e P vB 379 .none] 2
def zb:=HD.cl mM [(.ref 38)] [(.ref 172),(.ref 38),(.type "ValueError"),(.type "Exception"),(.type "BaseException"),(.type "object")] 171 [] 156 359 367 (.builtin "ValueError.__new__")
def Ia:=HD.su 172
def HH:=HD.bm (.builtin "object.__init_subclass__") (.ref 172)
noncomputable def YH:List Stmt:=[ht 9]
noncomputable def ZT8(P:Params):BT:=(HD.gJ [aW,b9,Ip P,ae,Ki,HZ,Il,ae,aA,wR,ae,Jo,yK,w6,ae,wV P,zb,Ia,HH] ((((ZT7 P).ins (nat_lit 3) (X8 P)).ins (nat_lit 12) (OH)).ins (nat_lit 38) (NS)) (nat_lit 156))
noncomputable abbrev Ut(w:World)(os:OsState):SharedT:=⟨ZT8 w.params,nat_lit 175,gC,Array.mk [],⟨0,0,0,0⟩,nat_lit 382,os⟩
noncomputable def Zq8:HD.ig (HD.F4):=λw=>(λos=>segRunT treeTable pw w (nat_lit 11) (some (.ref 6)) (nat_lit 1) (nat_lit 244) (Uc w os) (piecesOf YH dD bY ⟨29,0,32,16⟩ dn),λos=>some (Flow.next,Ut w os,bY,⟨33,0,36,16⟩))
theorem Sa:HD.seg pw (nat_lit 11) (some (.ref 6)) (nat_lit 244) Uc Ut YH dD bY ⟨29,0,32,16⟩ ⟨33,0,36,16⟩ dn=Zq8:=by kernel_rfl
name_quick Pk for Zq8 by Sa
theorem Zi8(w:World):(Fast.Pk w).1=(Fast.Pk w).2:=by kernel_rfl
theorem Zh8:HD.Ok (HD.seg pw (nat_lit 11) (some (.ref 6)) (nat_lit 244) Uc Ut YH dD bY ⟨29,0,32,16⟩ ⟨33,0,36,16⟩ dn):=HD.gk Fast.Pk_eq Zi8
def W9:=HD.dm (X8 P) [HD.e P nh 404 (.ref 191)] 19
def Pa:=HD.fa (OH) [(HD.i 37),(HD.i 0),(.ref 180)]
def OS:=HD.sb (NS) [(.ref 191)]
def Ky:=HD.dc [HD.e P b_ 389 (.str aR 194),HD.e P fB 391 (.str nh 390),HD.e P cc 393 (.int (.ofNat 37) 392),HD.e P aF 400 (.ref 188),HD.e P b6 401 (.ref 189)] 5
def HU:=HD.fl [(HD.i 39),(HD.i 4),(.ref 187)]
def Js:=HD.cd nh nh aK 384 385 386 37 0 0 0 0 178 false 181 179 .none .none .none .none 387 37 388
def I_:=HD.fm 180 3 177 aR 194
def wK:=HD.tp [(.str dZ 397)]
def H_:=HD.fs aF K_ (L2.inClass (ht 10) 0)
def wO:=HD.cd aF K_ aK 394 395 396 39 1 0 0 3 182 true 181 183 .none (.ref 184) (.ref 185) (.ref 186) 398 39 399
def yF:=HD.fu aF K_ (L2.inClass (ht 10) 0) aR 194 187
def w4:=HD.dc [HD.e P b_ 389 (.str aR 194),HD.e P cc 393 (.int (.ofNat 37) 392),HD.e P aF 400 (.ref 188),HD.e P b6 401 (.ref 189),HD.e P vB 402 .none] 2
def zf:=HD.cl nh [(.ref 38)] [(.ref 191),(.ref 38),(.type "ValueError"),(.type "Exception"),(.type "BaseException"),(.type "object")] 190 [] 175 382 390 (.builtin "ValueError.__new__")
def IA:=HD.su 191
def J7:=HD.bm (.builtin "object.__init_subclass__") (.ref 191)
noncomputable def Y8:List Stmt:=[ht 10]
noncomputable def ZT9(P:Params):BT:=(HD.gJ [aW,b9,Ky P,ae,HU,Js,I_,ae,aA,wK,ae,H_,wO,yF,ae,w4 P,zf,IA,J7] ((((ZT8 P).ins (nat_lit 3) (W9 P)).ins (nat_lit 12) (Pa)).ins (nat_lit 38) (OS)) (nat_lit 175))
noncomputable abbrev Ur(w:World)(os:OsState):SharedT:=⟨ZT9 w.params,nat_lit 194,gC,Array.mk [],⟨0,0,0,0⟩,nat_lit 405,os⟩
noncomputable def Zq9:HD.ig (HD.F4):=λw=>(λos=>segRunT treeTable pw w (nat_lit 11) (some (.ref 6)) (nat_lit 1) (nat_lit 244) (Ut w os) (piecesOf Y8 dD bY ⟨33,0,36,16⟩ dn),λos=>some (Flow.next,Ur w os,bY,⟨37,0,40,16⟩))
theorem QW:HD.seg pw (nat_lit 11) (some (.ref 6)) (nat_lit 244) Ut Ur Y8 dD bY ⟨33,0,36,16⟩ ⟨37,0,40,16⟩ dn=Zq9:=by kernel_rfl
name_quick Pw for Zq9 by QW
theorem Zi9(w:World):(Fast.Pw w).1=(Fast.Pw w).2:=by kernel_rfl
theorem Zh9:HD.Ok (HD.seg pw (nat_lit 11) (some (.ref 6)) (nat_lit 244) Ut Ur Y8 dD bY ⟨33,0,36,16⟩ ⟨37,0,40,16⟩ dn):=HD.gk Fast.Pw_eq Zi9
def NP:=HD.dm (W9 P) [HD.e P nD 427 (.ref 210)] 20
def Lm:=HD.fa (Pa) [(HD.i 41),(HD.i 0),(.ref 199)]
def Jw:=HD.sb (OS) [(.ref 210)]
def Dx:=HD.dc [HD.e P b_ 412 (.str aR 194),HD.e P fB 414 (.str nD 413),HD.e P cc 416 (.int (.ofNat 41) 415),HD.e P aF 423 (.ref 207),HD.e P b6 424 (.ref 208)] 5
def Cr:=HD.fl [(HD.i 43),(HD.i 4),(.ref 206)]
def EA:=HD.cd nD nD aK 407 408 409 41 0 0 0 0 197 false 181 198 .none .none .none .none 410 41 411
def Ed:=HD.fm 199 3 196 aR 194
def rJ:=HD.tp [(.str dZ 420)]
def Eo:=HD.fs aF JI (L2.inClass (ht 11) 0)
def r9:=HD.cd aF JI aK 417 418 419 43 1 0 0 3 201 true 181 202 .none (.ref 203) (.ref 204) (.ref 205) 421 43 422
def qF:=HD.fu aF JI (L2.inClass (ht 11) 0) aR 194 206
def pP:=HD.dc [HD.e P b_ 412 (.str aR 194),HD.e P cc 416 (.int (.ofNat 41) 415),HD.e P aF 423 (.ref 207),HD.e P b6 424 (.ref 208),HD.e P vB 425 .none] 2
def om:=HD.cl nD [(.ref 38)] [(.ref 210),(.ref 38),(.type "ValueError"),(.type "Exception"),(.type "BaseException"),(.type "object")] 209 [] 194 405 413 (.builtin "ValueError.__new__")
def FC:=HD.su 210
def EO:=HD.bm (.builtin "object.__init_subclass__") (.ref 210)
noncomputable def Mu:List Stmt:=[ht 11]
noncomputable def WK(P:Params):BT:=(HD.gJ [aW,b9,Dx P,ae,Cr,EA,Ed,ae,aA,rJ,ae,Eo,r9,qF,ae,pP P,om,FC,EO] ((((ZT9 P).ins (nat_lit 3) (NP P)).ins (nat_lit 12) (Lm)).ins (nat_lit 38) (Jw)) (nat_lit 194))
noncomputable abbrev Gi(w:World)(os:OsState):SharedT:=⟨WK w.params,nat_lit 213,gC,Array.mk [],⟨0,0,0,0⟩,nat_lit 428,os⟩
noncomputable def WU:HD.ig (HD.F4):=λw=>(λos=>segRunT treeTable pw w (nat_lit 11) (some (.ref 6)) (nat_lit 1) (nat_lit 244) (Ur w os) (piecesOf Mu dD bY ⟨37,0,40,16⟩ dn),λos=>some (Flow.next,Gi w os,bY,⟨41,0,44,16⟩))
theorem ND:HD.seg pw (nat_lit 11) (some (.ref 6)) (nat_lit 244) Ur Gi Mu dD bY ⟨37,0,40,16⟩ ⟨41,0,44,16⟩ dn=WU:=by kernel_rfl
name_quick JX for WU by ND
theorem aai(w:World):(Fast.JX w).1=(Fast.JX w).2:=by kernel_rfl
theorem aab:HD.Ok (HD.seg pw (nat_lit 11) (some (.ref 6)) (nat_lit 244) Ur Gi Mu dD bY ⟨37,0,40,16⟩ ⟨41,0,44,16⟩ dn):=HD.gk Fast.JX_eq aai
def OR:=HD.dm (NP P) [HD.e P mI 450 (.ref 229)] 21
def HI:=HD.fa (Lm) [(HD.i 45),(HD.i 0),(.ref 218)]
def HY:=HD.sb (Jw) [(.ref 229)]
def DD:=HD.dc [HD.e P b_ 435 (.str aR 194),HD.e P fB 437 (.str mI 436),HD.e P cc 439 (.int (.ofNat 45) 438),HD.e P aF 446 (.ref 226),HD.e P b6 447 (.ref 227)] 5
def EX:=HD.fl [(HD.i 47),(HD.i 4),(.ref 225)]
def CP:=HD.cd mI mI aK 430 431 432 45 0 0 0 0 216 false 181 217 .none .none .none .none 433 45 434
def DV:=HD.fm 218 3 215 aR 194
def rB:=HD.tp [(.str dZ 443)]
def Fv:=HD.fs aF Kz (L2.inClass (ht 12) 0)
def pX:=HD.cd aF Kz aK 440 441 442 47 1 0 0 3 220 true 181 221 .none (.ref 222) (.ref 223) (.ref 224) 444 47 445
def oK:=HD.fu aF Kz (L2.inClass (ht 12) 0) aR 194 225
def qp:=HD.dc [HD.e P b_ 435 (.str aR 194),HD.e P cc 439 (.int (.ofNat 45) 438),HD.e P aF 446 (.ref 226),HD.e P b6 447 (.ref 227),HD.e P vB 448 .none] 2
def pQ:=HD.cl mI [(.ref 38)] [(.ref 229),(.ref 38),(.type "ValueError"),(.type "Exception"),(.type "BaseException"),(.type "object")] 228 [] 213 428 436 (.builtin "ValueError.__new__")
def Fq:=HD.su 229
def CM:=HD.bm (.builtin "object.__init_subclass__") (.ref 229)
noncomputable def MW:List Stmt:=[ht 12]
noncomputable def Yd(P:Params):BT:=(HD.gJ [aW,b9,DD P,ae,EX,CP,DV,ae,aA,rB,ae,Fv,pX,oK,ae,qp P,pQ,Fq,CM] ((((WK P).ins (nat_lit 3) (OR P)).ins (nat_lit 12) (HI)).ins (nat_lit 38) (HY)) (nat_lit 213))
noncomputable abbrev GV(w:World)(os:OsState):SharedT:=⟨Yd w.params,nat_lit 232,gC,Array.mk [],⟨0,0,0,0⟩,nat_lit 451,os⟩
noncomputable def Xs:HD.ig (HD.F4):=λw=>(λos=>segRunT treeTable pw w (nat_lit 11) (some (.ref 6)) (nat_lit 1) (nat_lit 244) (Gi w os) (piecesOf MW dD bY ⟨41,0,44,16⟩ dn),λos=>some (Flow.next,GV w os,bY,⟨45,0,48,17⟩))
theorem Nr:HD.seg pw (nat_lit 11) (some (.ref 6)) (nat_lit 244) Gi GV MW dD bY ⟨41,0,44,16⟩ ⟨45,0,48,17⟩ dn=Xs:=by kernel_rfl
name_quick Lv for Xs by Nr
theorem aae(w:World):(Fast.Lv w).1=(Fast.Lv w).2:=by kernel_rfl
theorem aa4:HD.Ok (HD.seg pw (nat_lit 11) (some (.ref 6)) (nat_lit 244) Gi GV MW dD bY ⟨41,0,44,16⟩ ⟨45,0,48,17⟩ dn):=HD.gk Fast.Lv_eq aae
def PM:=HD.dm (OR P) [HD.e P mK 473 (.ref 248)] 22
def K6:=HD.fa (HI) [(HD.i 49),(HD.i 0),(.ref 237)]
def Lj:=HD.sb (HY) [(.ref 248)]
def D2:=HD.dc [HD.e P b_ 458 (.str aR 194),HD.e P fB 460 (.str mK 459),HD.e P cc 462 (.int (.ofNat 49) 461),HD.e P aF 469 (.ref 245),HD.e P b6 470 (.ref 246)] 5
def CG:=HD.fl [(HD.i 51),(HD.i 4),(.ref 244)]
def CC:=HD.cd mK mK aK 453 454 455 49 0 0 0 0 235 false 181 236 .none .none .none .none 456 49 457
def Fw:=HD.fm 237 3 234 aR 194
def qC:=HD.tp [(.str dZ 466)]
def DX:=HD.fs aF IM (L2.inClass (ht 13) 0)
def pE:=HD.cd aF IM aK 463 464 465 51 1 0 0 3 239 true 181 240 .none (.ref 241) (.ref 242) (.ref 243) 467 51 468
def rP:=HD.fu aF IM (L2.inClass (ht 13) 0) aR 194 244
def qM:=HD.dc [HD.e P b_ 458 (.str aR 194),HD.e P cc 462 (.int (.ofNat 49) 461),HD.e P aF 469 (.ref 245),HD.e P b6 470 (.ref 246),HD.e P vB 471 .none] 2
def n9:=HD.cl mK [(.ref 38)] [(.ref 248),(.ref 38),(.type "ValueError"),(.type "Exception"),(.type "BaseException"),(.type "object")] 247 [] 232 451 459 (.builtin "ValueError.__new__")
def Dl:=HD.su 248
def EB:=HD.bm (.builtin "object.__init_subclass__") (.ref 248)
noncomputable def MB:List Stmt:=[ht 13]
noncomputable def V7(P:Params):BT:=(HD.gJ [aW,b9,D2 P,ae,CG,CC,Fw,ae,aA,qC,ae,DX,pE,rP,ae,qM P,n9,Dl,EB] ((((Yd P).ins (nat_lit 3) (PM P)).ins (nat_lit 12) (K6)).ins (nat_lit 38) (Lj)) (nat_lit 232))
noncomputable abbrev Gk(w:World)(os:OsState):SharedT:=⟨V7 w.params,nat_lit 251,gC,Array.mk [],⟨0,0,0,0⟩,nat_lit 474,os⟩
noncomputable def Xj:HD.ig (HD.F4):=λw=>(λos=>segRunT treeTable pw w (nat_lit 11) (some (.ref 6)) (nat_lit 1) (nat_lit 244) (GV w os) (piecesOf MB dD bY ⟨45,0,48,17⟩ dn),λos=>some (Flow.next,Gk w os,bY,⟨49,0,52,17⟩))
theorem MV:HD.seg pw (nat_lit 11) (some (.ref 6)) (nat_lit 244) GV Gk MB dD bY ⟨45,0,48,17⟩ ⟨49,0,52,17⟩ dn=Xj:=by kernel_rfl
name_quick Hq for Xj by MV
theorem aaQ(w:World):(Fast.Hq w).1=(Fast.Hq w).2:=by kernel_rfl
theorem Zp:HD.Ok (HD.seg pw (nat_lit 11) (some (.ref 6)) (nat_lit 244) GV Gk MB dD bY ⟨45,0,48,17⟩ ⟨49,0,52,17⟩ dn):=HD.gk Fast.Hq_eq aaQ
def Pf:=HD.dm (PM P) [HD.e P m8 496 (.ref 267)] 23
def Kd:=HD.fa (K6) [(HD.i 53),(HD.i 0),(.ref 256)]
def Hf:=HD.sb (Lj) [(.ref 267)]
def E7:=HD.dc [HD.e P b_ 481 (.str aR 194),HD.e P fB 483 (.str m8 482),HD.e P cc 485 (.int (.ofNat 53) 484),HD.e P aF 492 (.ref 264),HD.e P b6 493 (.ref 265)] 5
def Ct:=HD.fl [(HD.i 55),(HD.i 4),(.ref 263)]
def DA:=HD.cd m8 m8 aK 476 477 478 53 0 0 0 0 254 false 181 255 .none .none .none .none 479 53 480
def Fp:=HD.fm 256 3 253 aR 194
def pZ:=HD.tp [(.str dZ 489)]
def Fh:=HD.fs aF Jr (L2.inClass (ht 14) 0)
def rF:=HD.cd aF Jr aK 486 487 488 55 1 0 0 3 258 true 181 259 .none (.ref 260) (.ref 261) (.ref 262) 490 55 491
def pA:=HD.fu aF Jr (L2.inClass (ht 14) 0) aR 194 263
def qb:=HD.dc [HD.e P b_ 481 (.str aR 194),HD.e P cc 485 (.int (.ofNat 53) 484),HD.e P aF 492 (.ref 264),HD.e P b6 493 (.ref 265),HD.e P vB 494 .none] 2
def qJ:=HD.cl m8 [(.ref 38)] [(.ref 267),(.ref 38),(.type "ValueError"),(.type "Exception"),(.type "BaseException"),(.type "object")] 266 [] 251 474 482 (.builtin "ValueError.__new__")
def CA:=HD.su 267
def Ci:=HD.bm (.builtin "object.__init_subclass__") (.ref 267)
noncomputable def Nz:List Stmt:=[ht 14]
noncomputable def XI(P:Params):BT:=(HD.gJ [aW,b9,E7 P,ae,Ct,DA,Fp,ae,aA,pZ,ae,Fh,rF,pA,ae,qb P,qJ,CA,Ci] ((((V7 P).ins (nat_lit 3) (Pf P)).ins (nat_lit 12) (Kd)).ins (nat_lit 38) (Hf)) (nat_lit 251))
noncomputable abbrev GW(w:World)(os:OsState):SharedT:=⟨XI w.params,nat_lit 270,gC,Array.mk [],⟨0,0,0,0⟩,nat_lit 497,os⟩
noncomputable def VG:HD.ig (HD.F4):=λw=>(λos=>segRunT treeTable pw w (nat_lit 11) (some (.ref 6)) (nat_lit 1) (nat_lit 244) (Gk w os) (piecesOf Nz dD bY ⟨49,0,52,17⟩ dn),λos=>some (Flow.next,GW w os,bY,⟨53,0,56,17⟩))
theorem MO:HD.seg pw (nat_lit 11) (some (.ref 6)) (nat_lit 244) Gk GW Nz dD bY ⟨49,0,52,17⟩ ⟨53,0,56,17⟩ dn=VG:=by kernel_rfl
name_quick KS for VG by MO
theorem aaD(w:World):(Fast.KS w).1=(Fast.KS w).2:=by kernel_rfl
theorem aaF:HD.Ok (HD.seg pw (nat_lit 11) (some (.ref 6)) (nat_lit 244) Gk GW Nz dD bY ⟨49,0,52,17⟩ ⟨53,0,56,17⟩ dn):=HD.gk Fast.KS_eq aaD
def UH:=HD.dm (Pf P) [HD.e P mO 519 (.ref 286)] 24
def Le:=HD.fa (Kd) [(HD.i 57),(HD.i 0),(.ref 275)]
def Iu:=HD.sb (Hf) [(.ref 286)]
def Cj:=HD.dc [HD.e P b_ 504 (.str aR 194),HD.e P fB 506 (.str mO 505),HD.e P cc 508 (.int (.ofNat 57) 507),HD.e P aF 515 (.ref 283),HD.e P b6 516 (.ref 284)] 5
def DC:=HD.fl [(HD.i 59),(HD.i 4),(.ref 282)]
def Co:=HD.cd mO mO aK 499 500 501 57 0 0 0 0 273 false 181 274 .none .none .none .none 502 57 503
def Cp:=HD.fm 275 3 272 aR 194
def qW:=HD.tp [(.str dZ 512)]
def CQ:=HD.fs aF Kb (L2.inClass (ht 15) 0)
def oE:=HD.cd aF Kb aK 509 510 511 59 1 0 0 3 277 true 181 278 .none (.ref 279) (.ref 280) (.ref 281) 513 59 514
def px:=HD.fu aF Kb (L2.inClass (ht 15) 0) aR 194 282
def rL:=HD.dc [HD.e P b_ 504 (.str aR 194),HD.e P cc 508 (.int (.ofNat 57) 507),HD.e P aF 515 (.ref 283),HD.e P b6 516 (.ref 284),HD.e P vB 517 .none] 2
def oq:=HD.cl mO [(.ref 38)] [(.ref 286),(.ref 38),(.type "ValueError"),(.type "Exception"),(.type "BaseException"),(.type "object")] 285 [] 270 497 505 (.builtin "ValueError.__new__")
def Et:=HD.su 286
def DS:=HD.bm (.builtin "object.__init_subclass__") (.ref 286)
noncomputable def MG:List Stmt:=[ht 15]
noncomputable def Vm(P:Params):BT:=(HD.gJ [aW,b9,Cj P,ae,DC,Co,Cp,ae,aA,qW,ae,CQ,oE,px,ae,rL P,oq,Et,DS] ((((XI P).ins (nat_lit 3) (UH P)).ins (nat_lit 12) (Le)).ins (nat_lit 38) (Iu)) (nat_lit 270))
noncomputable abbrev GK(w:World)(os:OsState):SharedT:=⟨Vm w.params,nat_lit 289,gC,Array.mk [],⟨0,0,0,0⟩,nat_lit 520,os⟩
noncomputable def U0:HD.ig (HD.F4):=λw=>(λos=>segRunT treeTable pw w (nat_lit 11) (some (.ref 6)) (nat_lit 1) (nat_lit 244) (GW w os) (piecesOf MG dD bY ⟨53,0,56,17⟩ dn),λos=>some (Flow.next,GK w os,bY,⟨57,0,60,17⟩))
theorem M_:HD.seg pw (nat_lit 11) (some (.ref 6)) (nat_lit 244) GW GK MG dD bY ⟨53,0,56,17⟩ ⟨57,0,60,17⟩ dn=U0:=by kernel_rfl
name_quick Lu for U0 by M_
theorem ZM(w:World):(Fast.Lu w).1=(Fast.Lu w).2:=by kernel_rfl
theorem aaa:HD.Ok (HD.seg pw (nat_lit 11) (some (.ref 6)) (nat_lit 244) GW GK MG dD bY ⟨53,0,56,17⟩ ⟨57,0,60,17⟩ dn):=HD.gk Fast.Lu_eq ZM
def Ot:=HD.dc [HD.e P YK 165 (.str wc 543),HD.e P vB 166 .none,HD.e P Yx 167 .none,HD.e P YW 168 (.builtin "__main__.__loader__#opaque"),HD.e P Yp 169 .none,HD.e P D5 170 (.ref 6),HD.e P Cz 171 (.ref 4),HD.e P EI 173 (.str aK 172),HD.e P Di 174 .none,HD.e P jB 193 (.ref 21),HD.e P lZ 220 (.ref 38),HD.e P l7 243 (.ref 58),HD.e P m5 266 (.ref 77),HD.e P mz 289 (.ref 96),HD.e P nA 312 (.ref 115),HD.e P mf 335 (.ref 134),HD.e P m_ 358 (.ref 153),HD.e P mM 381 (.ref 172),HD.e P nh 404 (.ref 191),HD.e P nD 427 (.ref 210),HD.e P mI 450 (.ref 229),HD.e P mK 473 (.ref 248),HD.e P m8 496 (.ref 267),HD.e P mO 519 (.ref 286),HD.e P tP 542 (.ref 305),HD.e P JV 546 (.int (.ofNat 600) 545),HD.e P Ji 548 (.int (.ofNat 40) 547),HD.e P Iv 550 (.int (.ofNat 99) 549),HD.e P G7 552 (.int (.ofNat 12) 551),HD.e P KP 554 (.str KU 553),HD.e P IW 560 (.ref 308)] 31
def Ht:=HD.fa (Le) [(HD.i 61),(HD.i 0),(.ref 294)]
def yj:=HD.sb (Iu) [(.ref 305)]
def Dz:=HD.dc [HD.e P b_ 527 (.str aR 194),HD.e P fB 529 (.str tP 528),HD.e P cc 531 (.int (.ofNat 61) 530),HD.e P aF 538 (.ref 302),HD.e P b6 539 (.ref 303)] 5
def Fc:=HD.fl [(HD.i 63),(HD.i 4),(.ref 301)]
def DN:=HD.cd tP tP aK 522 523 524 61 0 0 0 0 292 false 181 293 .none .none .none .none 525 61 526
def DO:=HD.fm 294 3 291 aR 194
def pT:=HD.tp [(.str dZ 535)]
def FF:=HD.fs aF Lx (L2.inClass (ht 16) 0)
def rW:=HD.cd aF Lx aK 532 533 534 63 1 0 0 3 296 true 181 297 .none (.ref 298) (.ref 299) (.ref 300) 536 63 537
def rX:=HD.fu aF Lx (L2.inClass (ht 16) 0) aR 194 301
def pL:=HD.dc [HD.e P b_ 527 (.str aR 194),HD.e P cc 531 (.int (.ofNat 61) 530),HD.e P aF 538 (.ref 302),HD.e P b6 539 (.ref 303),HD.e P vB 540 .none] 2
def qR:=HD.cl tP [(.ref 38)] [(.ref 305),(.ref 38),(.type "ValueError"),(.type "Exception"),(.type "BaseException"),(.type "object")] 304 [] 289 520 528 (.builtin "ValueError.__new__")
def D3:=HD.su 305
def C9:=HD.bm (.builtin "object.__init_subclass__") (.ref 305)
def oF:=HD.tp [(.str Og 555),(.str P4 556),(.str Zx9 557),(.str Hj 558),(.str Oc 559)]
noncomputable def Nu:List Stmt:=[ht 16,ht 17,ht 18,ht 19,ht 20,ht 21,ht 22,ht 23]
noncomputable def Ux(P:Params):BT:=(HD.gJ [aW,b9,Dz P,ae,Fc,DN,DO,ae,aA,pT,ae,FF,rW,rX,ae,pL P,qR,D3,C9,oF] ((((Vm P).ins (nat_lit 3) (Ot P)).ins (nat_lit 12) (Ht)).ins (nat_lit 38) (yj)) (nat_lit 289))
noncomputable abbrev Am(w:World)(os:OsState):SharedT:=⟨Ux w.params,nat_lit 309,gC,Array.mk [],⟨0,0,0,0⟩,nat_lit 561,os⟩
noncomputable def UU:HD.ig (HD.F4):=λw=>(λos=>segRunT treeTable pw w (nat_lit 11) (some (.ref 6)) (nat_lit 1) (nat_lit 313) (GK w os) (piecesOf Nu dD bY ⟨57,0,60,17⟩ dn),λos=>some (Flow.next,Am w os,bY,⟨71,0,71,10⟩))
theorem Nq:HD.seg pw (nat_lit 11) (some (.ref 6)) (nat_lit 313) GK Am Nu dD bY ⟨57,0,60,17⟩ ⟨71,0,71,10⟩ dn=UU:=by kernel_rfl
name_quick J8 for UU by Nq
theorem Zs(w:World):(Fast.J8 w).1=(Fast.J8 w).2:=by kernel_rfl
theorem aau:HD.Ok (HD.seg pw (nat_lit 11) (some (.ref 6)) (nat_lit 313) GK Am Nu dD bY ⟨57,0,60,17⟩ ⟨71,0,71,10⟩ dn):=HD.gk Fast.J8_eq Zs
def UL:=HD.dm (Ot P) [HD.e P Kc 625 (.ref 309)] 32
def qP:=HD.dc [HD.e P Og 561 (.ref 310),HD.e P P4 563 (.ref 311),HD.e P Zx9 565 (.ref 312),HD.e P Hj 569 (.ref 313),HD.e P Oc 573 (.ref 314),HD.e P XY 578 (.ref 315),HD.e P Oq 580 (.ref 316),HD.e P WJ 584 (.ref 317),HD.e P Xw 588 (.ref 318),HD.e P aaR 590 (.ref 319),HD.e P Pj 593 (.ref 320),HD.e P V5 599 (.ref 321),HD.e P OQ 603 (.ref 322),HD.e P Xo 608 (.ref 323),HD.e P V1 612 (.ref 324),HD.e P Xc 617 (.ref 325),HD.e P W2 620 (.ref 326),HD.e P Dp 623 (.ref 328)] 18
def p_:=HD.tp [(.str iA 566),(.str iA 567)]
def rE:=HD.tp [(.str iA 570),(.str iA 571)]
def pK:=HD.tp [(.str iA 574),(.str fc 575),(.str fc 576)]
def pR:=HD.tp [(.str iA 581),(.str fc 582)]
def oI:=HD.tp [(.str fc 585),(.str fc 586)]
def o_:=HD.tp [(.str fc 591)]
def oY:=HD.tp [(.str iA 594),(.str fc 595),(.str fc 596),(.str fc 597)]
def qL:=HD.tp [(.str iA 600),(.str fc 601)]
def rq:=HD.tp [(.str iA 604),(.str fc 605),(.str fc 606)]
def qx:=HD.tp [(.str iA 609),(.str fc 610)]
def pb:=HD.tp [(.str iA 613),(.str fc 614),(.str fc 615)]
def pI:=HD.tp [(.str fc 618)]
def qw:=HD.tp [(.str fc 621)]
def E2:=HD.dc [HD.e P Dp 623 (.ref 328)] 1
noncomputable def F3:List Stmt:=[ht 24]
noncomputable def Wj(P:Params):BT:=(HD.gJ [qP P,ae,ae,p_,rE,pK,ae,pR,oI,ae,o_,oY,qL,rq,qx,pb,pI,qw,E2 P,ae] ((Ux P).ins (nat_lit 3) (UL P)) (nat_lit 309))
noncomputable abbrev vf(w:World)(os:OsState):SharedT:=⟨Wj w.params,nat_lit 329,gC,Array.mk [],⟨0,0,0,0⟩,nat_lit 626,os⟩
noncomputable def Qb:HD.ig (HD.F4):=λw=>(λos=>segRunT treeTable pw (w.withFollow "special-get-raises" false) (nat_lit 11) (some (.ref 6)) (nat_lit 1) (nat_lit 340) (Am (w.withFollow "special-get-raises" false) os) (piecesOf F3 dD bY ⟨71,0,71,10⟩ dn),λos=>some (Flow.next,vf (w.withFollow "special-get-raises" false) os,bY,⟨72,0,72,8⟩))
theorem Kv:(λw:World=>HD.seg pw (nat_lit 11) (some (.ref 6)) (nat_lit 340) Am vf F3 dD bY ⟨71,0,71,10⟩ ⟨72,0,72,8⟩ dn (w.withFollow "special-get-raises" false))=Qb:=by kernel_rfl
name_quick Fn for Qb by Kv
theorem X2(w:World):(Fast.Fn w).1=(Fast.Fn w).2:=by kernel_rfl
noncomputable def N1:HD.ig (HD.F4):=λw=>(λos=>segRunT treeTable pw (w.withFollow "special-get-raises" true) (nat_lit 11) (some (.ref 6)) (nat_lit 1) (nat_lit 340) (Am (w.withFollow "special-get-raises" true) os) (piecesOf F3 dD bY ⟨71,0,71,10⟩ dn),λos=>some (Flow.next,vf (w.withFollow "special-get-raises" true) os,bY,⟨72,0,72,8⟩))
theorem Lb:(λw:World=>HD.seg pw (nat_lit 11) (some (.ref 6)) (nat_lit 340) Am vf F3 dD bY ⟨71,0,71,10⟩ ⟨72,0,72,8⟩ dn (w.withFollow "special-get-raises" true))=N1:=by kernel_rfl
name_quick Dv for N1 by Lb
theorem VR(w:World):(Fast.Dv w).1=(Fast.Dv w).2:=by kernel_rfl
theorem ZY:HD.Ok (HD.seg pw (nat_lit 11) (some (.ref 6)) (nat_lit 340) Am vf F3 dD bY ⟨71,0,71,10⟩ ⟨72,0,72,8⟩ dn):=HD.Ke "special-get-raises" Fast.Fn_eq Fast.Dv_eq X2 VR
def Oz:=HD.dc [HD.e P YK 165 (.str eX 682),HD.e P vB 166 .none,HD.e P Yx 167 .none,HD.e P YW 168 (.builtin "__main__.__loader__#opaque"),HD.e P Yp 169 .none,HD.e P D5 170 (.ref 6),HD.e P Cz 171 (.ref 4),HD.e P EI 173 (.str aK 172),HD.e P Di 174 .none,HD.e P jB 193 (.ref 21),HD.e P lZ 220 (.ref 38),HD.e P l7 243 (.ref 58),HD.e P m5 266 (.ref 77),HD.e P mz 289 (.ref 96),HD.e P nA 312 (.ref 115),HD.e P mf 335 (.ref 134),HD.e P m_ 358 (.ref 153),HD.e P mM 381 (.ref 172),HD.e P nh 404 (.ref 191),HD.e P nD 427 (.ref 210),HD.e P mI 450 (.ref 229),HD.e P mK 473 (.ref 248),HD.e P m8 496 (.ref 267),HD.e P mO 519 (.ref 286),HD.e P tP 542 (.ref 305),HD.e P JV 546 (.int (.ofNat 600) 545),HD.e P Ji 548 (.int (.ofNat 40) 547),HD.e P Iv 550 (.int (.ofNat 99) 549),HD.e P G7 552 (.int (.ofNat 12) 551),HD.e P KP 554 (.str KU 553),HD.e P IW 560 (.ref 308),HD.e P Kc 625 (.ref 309),HD.e P OI 641 (.ref 329),HD.e P mD 647 (.ref 334),HD.e P l9 653 (.ref 339),HD.e P ni 660 (.ref 346),HD.e P mC 666 (.ref 351),HD.e P l5 673 (.ref 358),HD.e P mU 681 (.ref 363),HD.e P O4 685 (.str NM 684),HD.e P NX 687 (.int (.ofNat 39) 686)] 41
def HJ:=HD.fa (Ht) [(HD.i 74),(HD.i 0),(.ref 333),(HD.i 78),(HD.i 0),(.ref 338),(HD.i 90),(HD.i 0),(.ref 345),(HD.i 94),(HD.i 0),(.ref 350),(HD.i 98),(HD.i 0),(.ref 357),(HD.i 103),(HD.i 0),(.ref 362)]
def ox:=HD.dc [HD.e P Zx9 626 (.int (.ofNat 1) 627),HD.e P Hj 628 (.int (.ofNat 1) 629),HD.e P Oq 630 (.int (.ofNat 1) 631),HD.e P Pj 632 (.int (.ofNat 0) 633),HD.e P OQ 634 (.int (.ofNat 0) 635)] 5
def D8:=HD.fs mD mD (ht 26)
def rl:=HD.cd mD mD aK 642 643 644 74 1 0 0 3 330 true 181 331 .none .none .none (.ref 332) 645 74 646
def rC:=HD.fu mD mD (ht 26) wc 543 333
def Cs:=HD.fs l9 l9 (ht 27)
def qd:=HD.cd l9 l9 aK 648 649 650 78 1 0 0 3 335 true 181 336 .none .none .none (.ref 337) 651 78 652
def pD:=HD.fu l9 l9 (ht 27) wc 543 338
def qU:=HD.tp [(.str Er 657)]
def CN:=HD.fs ni ni (ht 28)
def qS:=HD.cd ni ni aK 654 655 656 90 1 0 0 3 340 true 181 341 .none (.ref 342) (.ref 343) (.ref 344) 658 90 659
def pJ:=HD.fu ni ni (ht 28) wc 543 345
def CW:=HD.fs mC mC (ht 29)
def oy:=HD.cd mC mC aK 661 662 663 94 1 0 0 3 347 true 181 348 .none .none .none (.ref 349) 664 94 665
def pG:=HD.fu mC mC (ht 29) wc 543 350
def pW:=HD.tp [(.str Er 670)]
def EM:=HD.fs l5 l5 (ht 30)
def qG:=HD.cd l5 l5 aK 667 668 669 98 1 0 0 3 352 true 181 353 .none (.ref 354) (.ref 355) (.ref 356) 671 98 672
def qN:=HD.fu l5 l5 (ht 30) wc 543 357
def Fj:=HD.fs mU mU (ht 32)
def rG:=HD.cd mU mU aK 676 677 678 103 1 0 0 3 359 true 181 360 .none .none .none (.ref 361) 679 103 680
def rD:=HD.fu mU mU (ht 32) UW 674 362
noncomputable def FK:List Stmt:=[ht 25,ht 26,ht 27,ht 28,ht 29,ht 30,ht 31,ht 32,ht 33,ht 34,ht 35]
noncomputable def Ye(P:Params):BT:=(HD.gJ [ox P,ae,aA,D8,rl,rC,ae,aA,Cs,qd,pD,ae,aA,qU,ae,CN,qS,pJ,ae,aA,CW,oy,pG,ae,aA,pW,ae,EM,qG,qN,ae,aA,Fj,rG,rD] (((Wj P).ins (nat_lit 3) (Oz P)).ins (nat_lit 12) (HJ)) (nat_lit 329))
noncomputable abbrev Ao(w:World)(os:OsState):SharedT:=⟨Ye w.params,nat_lit 364,gC,Array.mk [],⟨0,0,0,0⟩,nat_lit 688,os⟩
noncomputable def O1:HD.ig (HD.F4):=λw=>(λos=>segRunT treeTable pw (w.withFollow "special-get-raises" false) (nat_lit 11) (some (.ref 6)) (nat_lit 1) (nat_lit 284) (vf (w.withFollow "special-get-raises" false) os) (piecesOf FK dD bY ⟨72,0,72,8⟩ dn),λos=>some (Flow.next,Ao (w.withFollow "special-get-raises" false) os,bY,⟨108,0,108,11⟩))
theorem HW:(λw:World=>HD.seg pw (nat_lit 11) (some (.ref 6)) (nat_lit 284) vf Ao FK dD bY ⟨72,0,72,8⟩ ⟨108,0,108,11⟩ dn (w.withFollow "special-get-raises" false))=O1:=by kernel_rfl
name_quick EF for O1 by HW
theorem Vs(w:World):(Fast.EF w).1=(Fast.EF w).2:=by kernel_rfl
noncomputable def PJ:HD.ig (HD.F4):=λw=>(λos=>segRunT treeTable pw (w.withFollow "special-get-raises" true) (nat_lit 11) (some (.ref 6)) (nat_lit 1) (nat_lit 284) (vf (w.withFollow "special-get-raises" true) os) (piecesOf FK dD bY ⟨72,0,72,8⟩ dn),λos=>some (Flow.next,Ao (w.withFollow "special-get-raises" true) os,bY,⟨108,0,108,11⟩))
theorem Ll:(λw:World=>HD.seg pw (nat_lit 11) (some (.ref 6)) (nat_lit 284) vf Ao FK dD bY ⟨72,0,72,8⟩ ⟨108,0,108,11⟩ dn (w.withFollow "special-get-raises" true))=PJ:=by kernel_rfl
name_quick Cw for PJ by Ll
theorem WN(w:World):(Fast.Cw w).1=(Fast.Cw w).2:=by kernel_rfl
theorem ZA:HD.Ok (HD.seg pw (nat_lit 11) (some (.ref 6)) (nat_lit 284) vf Ao FK dD bY ⟨72,0,72,8⟩ ⟨108,0,108,11⟩ dn):=HD.Ke "special-get-raises" Fast.EF_eq Fast.Cw_eq Vs WN
def Xy:=HD.dm (Oz P) [HD.e P kL 750 (.ref 408),HD.e P mF 759 (.ref 419)] 43
def Jb:=HD.fa (HJ) [(HD.i 109),(HD.i 0),(.ref 369),(HD.i 134),(HD.i 0),(.ref 418)]
def EC:=HD.dc [HD.e P b_ 695 (.str eX 682),HD.e P fB 697 (.str kL 696),HD.e P cc 699 (.int (.ofNat 109) 698),HD.e P Ad 709 (.ref 377),HD.e P zo 716 (.ref 384),HD.e P Av 723 (.ref 391),HD.e P zP 731 (.ref 398),HD.e P vH 738 (.ref 405),HD.e P b6 743 (.ref 406)] 9
def CO:=HD.fl [(HD.i 111),(HD.i 4),(.ref 376),(HD.i 117),(HD.i 4),(.ref 383),(HD.i 120),(HD.i 4),(.ref 390),(HD.i 123),(HD.i 4),(.ref 397),(HD.i 130),(HD.i 4),(.ref 404)]
def Eu:=HD.cd kL kL aK 690 691 692 109 0 0 0 0 367 false 181 368 .none .none .none .none 693 109 694
def Ff:=HD.fm 369 3 366 eX 682
def rT:=HD.tp [(.str dZ 703),(.str wm 704),(.str Dp 705),(.str DG 706)]
def C3:=HD.fs Ad KQ (L2.inClass (ht 36) 0)
def qg:=HD.cd Ad KQ aK 700 701 702 111 4 0 0 3 371 true 181 372 .none (.ref 373) (.ref 374) (.ref 375) 707 111 708
def r_:=HD.fu Ad KQ (L2.inClass (ht 36) 0) eX 682 376
def oa:=HD.tp [(.str dZ 713)]
def CS:=HD.fs zo Ho (L2.inClass (ht 36) 1)
def p9:=HD.cd zo Ho aK 710 711 712 117 1 0 0 3 378 true 181 379 .none (.ref 380) (.ref 381) (.ref 382) 714 117 715
def qE:=HD.fu zo Ho (L2.inClass (ht 36) 1) eX 682 383
def pF:=HD.tp [(.str dZ 720)]
def DE:=HD.fs Av K7 (L2.inClass (ht 36) 2)
def oS:=HD.cd Av K7 aK 717 718 719 120 1 0 0 3 385 true 181 386 .none (.ref 387) (.ref 388) (.ref 389) 721 120 722
def rQ:=HD.fu Av K7 (L2.inClass (ht 36) 2) eX 682 390
def qH:=HD.tp [(.str dZ 727),(.str Er 728)]
def CJ:=HD.fs zP IQ (L2.inClass (ht 36) 3)
def pO:=HD.cd zP IQ aK 724 725 726 123 2 0 0 3 392 true 181 393 .none (.ref 394) (.ref 395) (.ref 396) 729 123 730
def og:=HD.fu zP IQ (L2.inClass (ht 36) 3) eX 682 397
def oA:=HD.tp [(.str dZ 735)]
def FG:=HD.fs vH Iq (L2.inClass (ht 36) 4)
def oz:=HD.cd vH Iq aK 732 733 734 130 1 0 0 3 399 true 181 400 .none (.ref 401) (.ref 402) (.ref 403) 736 130 737
def se:=HD.fu vH Iq (L2.inClass (ht 36) 4) eX 682 404
def rY:=HD.tp [(.str DG 739),(.str Dp 740),(.str V_ 741),(.str wm 742)]
def pS:=HD.dc [HD.e P b_ 695 (.str eX 682),HD.e P cc 699 (.int (.ofNat 109) 698),HD.e P Ad 709 (.ref 377),HD.e P zo 716 (.ref 384),HD.e P Av 723 (.ref 391),HD.e P zP 731 (.ref 398),HD.e P vH 738 (.ref 405),HD.e P b6 743 (.ref 406),HD.e P OC 745 (.ref 409),HD.e P E9 747 (.ref 410),HD.e P vB 748 .none] 4
noncomputable def pH:Obj:=⟨(.type "type"),none,(.cls ⟨kL,[(.type "object")],[(.ref 408),(.type "object")],407,kL,true,[],[],false,none,false⟩),#[none,none,(some (.str kL 688)),(some (.str kL 696)),(some (.builtin "object.__new__")),(some (.bool true))]⟩
noncomputable def qI:Obj:=⟨(.type "getset_descriptor"),none,(.fields #[(.str OC 744),(.ref 408),(.builtin "function.__dict__"),(.builtin "function.__dict__#set")]),#[]⟩
noncomputable def qZ:Obj:=⟨(.type "getset_descriptor"),none,(.fields #[(.str E9 746),(.ref 408),(.builtin "ExceptionGroup.__weakref__"), .none]),#[]⟩
def D7:=HD.su 408
def Fu:=HD.bm (.builtin "object.__init_subclass__") (.ref 408)
def pB:=HD.tp [(.str Xz 754),(.str wm 755),(.str DG 756)]
def D6:=HD.fs mF mF (ht 37)
def pq:=HD.cd mF mF aK 751 752 753 134 1 0 0 3 413 true 181 414 .none (.ref 415) (.ref 416) (.ref 417) 757 134 758
def ow:=HD.fu mF mF (ht 37) eX 682 418
noncomputable def Nn:List Stmt:=[ht 36,ht 37]
noncomputable def Uz(P:Params):BT:=(HD.gJ [ae,b9,EC P,ae,CO,Eu,Ff,ae,aA,rT,ae,C3,qg,r_,ae,aA,oa,ae,CS,p9,qE,ae,aA,pF,ae,DE,oS,rQ,ae,aA,qH,ae,CJ,pO,og,ae,aA,oA,ae,FG,oz,se,rY,pS P,pH,qI,qZ,D7,Fu,ae,aA,pB,ae,D6,pq,ow] (((Ye P).ins (nat_lit 3) (Xy P)).ins (nat_lit 12) (Jb)) (nat_lit 364))
noncomputable abbrev Gz(w:World)(os:OsState):SharedT:=⟨Uz w.params,nat_lit 420,gC,Array.mk [],⟨0,0,0,0⟩,nat_lit 760,os⟩
noncomputable def Vh:HD.ig (HD.F4):=λw=>(λos=>segRunT treeTable pw w (nat_lit 11) (some (.ref 6)) (nat_lit 1) (nat_lit 384) (Ao w os) (piecesOf Nn dD bY ⟨108,0,108,11⟩ dn),λos=>some (Flow.next,Gz w os,bY,⟨134,0,143,35⟩))
theorem L5:HD.seg pw (nat_lit 11) (some (.ref 6)) (nat_lit 384) Ao Gz Nn dD bY ⟨108,0,108,11⟩ ⟨134,0,143,35⟩ dn=Vh:=by kernel_rfl
name_quick Hu for Vh by L5
theorem aah(w:World):(Fast.Hu w).1=(Fast.Hu w).2:=by kernel_rfl
theorem Zv:HD.Ok (HD.seg pw (nat_lit 11) (some (.ref 6)) (nat_lit 384) Ao Gz Nn dD bY ⟨108,0,108,11⟩ ⟨134,0,143,35⟩ dn):=HD.gk Fast.Hu_eq aah
def Oo:=HD.dc [HD.e P YK 165 (.str fO 827),HD.e P vB 166 .none,HD.e P Yx 167 .none,HD.e P YW 168 (.builtin "__main__.__loader__#opaque"),HD.e P Yp 169 .none,HD.e P D5 170 (.ref 6),HD.e P Cz 171 (.ref 4),HD.e P EI 173 (.str aK 172),HD.e P Di 174 .none,HD.e P jB 193 (.ref 21),HD.e P lZ 220 (.ref 38),HD.e P l7 243 (.ref 58),HD.e P m5 266 (.ref 77),HD.e P mz 289 (.ref 96),HD.e P nA 312 (.ref 115),HD.e P mf 335 (.ref 134),HD.e P m_ 358 (.ref 153),HD.e P mM 381 (.ref 172),HD.e P nh 404 (.ref 191),HD.e P nD 427 (.ref 210),HD.e P mI 450 (.ref 229),HD.e P mK 473 (.ref 248),HD.e P m8 496 (.ref 267),HD.e P mO 519 (.ref 286),HD.e P tP 542 (.ref 305),HD.e P JV 546 (.int (.ofNat 600) 545),HD.e P Ji 548 (.int (.ofNat 40) 547),HD.e P Iv 550 (.int (.ofNat 99) 549),HD.e P G7 552 (.int (.ofNat 12) 551),HD.e P KP 554 (.str KU 553),HD.e P IW 560 (.ref 308),HD.e P Kc 625 (.ref 309),HD.e P OI 641 (.ref 329),HD.e P mD 647 (.ref 334),HD.e P l9 653 (.ref 339),HD.e P ni 660 (.ref 346),HD.e P mC 666 (.ref 351),HD.e P l5 673 (.ref 358),HD.e P mU 681 (.ref 363),HD.e P O4 685 (.str NM 684),HD.e P NX 687 (.int (.ofNat 39) 686),HD.e P kL 750 (.ref 408),HD.e P mF 759 (.ref 419),HD.e P tS 770 (.ref 426),HD.e P tj 776 (.ref 431),HD.e P uO 785 (.ref 438),HD.e P uF 794 (.ref 445),HD.e P sZ 810 (.ref 452),HD.e P uK 818 (.ref 459),HD.e P sH 826 (.ref 466),HD.e P uo 836 (.ref 473),HD.e P sT 843 (.ref 480),HD.e P uE 854 (.ref 487),HD.e P sF 861 (.ref 494),HD.e P tq 868 (.ref 501)] 55
def Ir:=HD.fa (Jb) [(HD.i 144),(HD.i 0),(.ref 425),(HD.i 154),(HD.i 0),(.ref 430),(HD.i 158),(HD.i 0),(.ref 437),(HD.i 163),(HD.i 0),(.ref 444),(HD.i 171),(HD.i 0),(.ref 451),(HD.i 193),(HD.i 0),(.ref 458),(HD.i 195),(HD.i 0),(.ref 465),(HD.i 198),(HD.i 0),(.ref 472),(HD.i 202),(HD.i 0),(.ref 479),(HD.i 205),(HD.i 0),(.ref 486),(HD.i 219),(HD.i 0),(.ref 493),(HD.i 231),(HD.i 0),(.ref 500)]
def qk:=HD.tp [(.str wm 763),(.str IY 764),(.str A2 765),(.str W4 766),(.str Pb 767)]
def EN:=HD.fs tS tS (ht 38)
def rH:=HD.cd tS tS aK 760 761 762 144 3 0 0 3 420 true 181 421 .none (.ref 422) (.ref 423) (.ref 424) 768 144 769
def pC:=HD.fu tS tS (ht 38) eX 682 425
def FD:=HD.fs tj tj (ht 39)
def pU:=HD.cd tj tj aK 771 772 773 154 1 0 0 3 427 true 181 428 .none .none .none (.ref 429) 774 154 775
def qo:=HD.fu tj tj (ht 39) eX 682 430
def q_:=HD.tp [(.str Wa 780),(.str Er 781),(.str Wz 782)]
def C2:=HD.fs uO uO (ht 40)
def rA:=HD.cd uO uO aK 777 778 779 158 1 0 0 3 432 true 181 433 .none (.ref 434) (.ref 435) (.ref 436) 783 158 784
def rm:=HD.fu uO uO (ht 40) eX 682 437
def oG:=HD.tp [(.str wm 789),(.str IY 790),(.str A2 791)]
def CD:=HD.fs uF uF (ht 41)
def qy:=HD.cd uF uF aK 786 787 788 163 3 0 0 3 439 true 181 440 .none (.ref 441) (.ref 442) (.ref 443) 792 163 793
def oV:=HD.fu uF uF (ht 41) eX 682 444
def p4:=HD.tp [(.str Hx 798),(.str A2 799),(.str DG 800),(.str XB 801),(.str XM 802),(.str IY 803),(.str UC 804),(.str wm 805),(.str Pb 806),(.str vH 807)]
def Fy:=HD.fs sZ sZ (ht 42)
def qB:=HD.cd sZ sZ aK 795 796 797 171 3 0 0 3 446 true 181 447 .none (.ref 448) (.ref 449) (.ref 450) 808 171 809
def oN:=HD.fu sZ sZ (ht 42) eX 682 451
def rh:=HD.tp [(.str Hx 814),(.str A2 815)]
def Dy:=HD.fs uK uK (ht 43)
def qY:=HD.cd uK uK aK 811 812 813 193 2 0 0 3 453 true 181 454 .none (.ref 455) (.ref 456) (.ref 457) 816 193 817
def oh:=HD.fu uK uK (ht 43) eX 682 458
def pY:=HD.tp [(.str Hx 822),(.str A2 823)]
def C4:=HD.fs sH sH (ht 44)
def rV:=HD.cd sH sH aK 819 820 821 195 2 0 0 3 460 true 181 461 .none (.ref 462) (.ref 463) (.ref 464) 824 195 825
def qT:=HD.fu sH sH (ht 44) eX 682 465
def p8:=HD.tp [(.str Pt 832),(.str vI 833)]
def E5:=HD.fs uo uo (ht 46)
def oH:=HD.cd uo uo aK 829 830 831 198 2 0 0 3 467 true 181 468 .none (.ref 469) (.ref 470) (.ref 471) 834 198 835
def qc:=HD.fu uo uo (ht 46) fO 827 472
def rM:=HD.tp [(.str IP 840)]
def CL:=HD.fs sT sT (ht 47)
def n_:=HD.cd sT sT aK 837 838 839 202 0 0 0 3 474 true 181 475 .none (.ref 476) (.ref 477) (.ref 478) 841 202 842
def qv:=HD.fu sT sT (ht 47) fO 827 479
def rZ:=HD.tp [(.str z8 847),(.str IP 848),(.str uh 849),(.str IS 850),(.str vI 851)]
def E_:=HD.fs uE uE (ht 48)
def oC:=HD.cd uE uE aK 844 845 846 205 1 0 0 3 481 true 181 482 .none (.ref 483) (.ref 484) (.ref 485) 852 205 853
def oj:=HD.fu uE uE (ht 48) fO 827 486
def pV:=HD.tp [(.str uh 858)]
def DZ:=HD.fs sF sF (ht 49)
def oU:=HD.cd sF sF aK 855 856 857 219 1 0 0 3 488 true 181 489 .none (.ref 490) (.ref 491) (.ref 492) 859 219 860
def rK:=HD.fu sF sF (ht 49) fO 827 493
def n8:=HD.tp [(.str uh 865)]
def Ef:=HD.fs tq tq (ht 50)
def rS:=HD.cd tq tq aK 862 863 864 231 1 0 0 3 495 true 181 496 .none (.ref 497) (.ref 498) (.ref 499) 866 231 867
def rR:=HD.fu tq tq (ht 50) fO 827 500
noncomputable def Mm:List Stmt:=[ht 38,ht 39,ht 40,ht 41,ht 42,ht 43,ht 44,ht 45,ht 46,ht 47,ht 48,ht 49,ht 50]
noncomputable def Wn(P:Params):BT:=(HD.gJ [ae,aA,qk,ae,EN,rH,pC,ae,aA,FD,pU,qo,ae,aA,q_,ae,C2,rA,rm,ae,aA,oG,ae,CD,qy,oV,ae,aA,p4,ae,Fy,qB,oN,ae,aA,rh,ae,Dy,qY,oh,ae,aA,pY,ae,C4,rV,qT,ae,aA,p8,ae,E5,oH,qc,ae,aA,rM,ae,CL,n_,qv,ae,aA,rZ,ae,E_,oC,oj,ae,aA,pV,ae,DZ,oU,rK,ae,aA,n8,ae,Ef,rS,rR] (((Uz P).ins (nat_lit 3) (Oo P)).ins (nat_lit 12) (Ir)) (nat_lit 420))
noncomputable abbrev GQ(w:World)(os:OsState):SharedT:=⟨Wn w.params,nat_lit 502,gC,Array.mk [],⟨0,0,0,0⟩,nat_lit 869,os⟩
noncomputable def Vy:HD.ig (HD.F4):=λw=>(λos=>segRunT treeTable pw w (nat_lit 11) (some (.ref 6)) (nat_lit 1) (nat_lit 379) (Gz w os) (piecesOf Mm dD bY ⟨134,0,143,35⟩ dn),λos=>some (Flow.next,GQ w os,bY,⟨231,0,236,13⟩))
theorem MT:HD.seg pw (nat_lit 11) (some (.ref 6)) (nat_lit 379) Gz GQ Mm dD bY ⟨134,0,143,35⟩ ⟨231,0,236,13⟩ dn=Vy:=by kernel_rfl
name_quick Hc for Vy by MT
theorem aat(w:World):(Fast.Hc w).1=(Fast.Hc w).2:=by kernel_rfl
theorem ZC:HD.Ok (HD.seg pw (nat_lit 11) (some (.ref 6)) (nat_lit 379) Gz GQ Mm dD bY ⟨134,0,143,35⟩ ⟨231,0,236,13⟩ dn):=HD.gk Fast.Hc_eq aat
def DP:=HD.dm (Oo P) [HD.e P tY 876 (.ref 508),HD.e P sL 890 (.ref 515),HD.e P t_ 911 (.ref 522),HD.e P sO 922 (.ref 529),HD.e P sr 932 (.ref 536),HD.e P uf 943 (.ref 543),HD.e P uc 954 (.ref 550),HD.e P tZ 960 (.ref 555),HD.e P uk 966 (.ref 560)] 64
def Kw:=HD.fa (Ir) [(HD.i 237),(HD.i 0),(.ref 507),(HD.i 241),(HD.i 0),(.ref 514),(HD.i 257),(HD.i 0),(.ref 521),(HD.i 281),(HD.i 0),(.ref 528),(HD.i 293),(HD.i 0),(.ref 535),(HD.i 306),(HD.i 0),(.ref 542),(HD.i 317),(HD.i 0),(.ref 549),(HD.i 327),(HD.i 0),(.ref 554),(HD.i 347),(HD.i 0),(.ref 559)]
def qq:=HD.tp [(.str uh 872),(.str Hw 873)]
def DQ:=HD.fs tY tY (ht 51)
def oM:=HD.cd tY tY aK 869 870 871 237 2 0 0 3 502 true 181 503 .none (.ref 504) (.ref 505) (.ref 506) 874 237 875
def qV:=HD.fu tY tY (ht 51) fO 827 507
def p7:=HD.tp [(.str z8 880),(.str KO 881),(.str Hw 882),(.str Om 883),(.str Yk 884),(.str VP 885),(.str vI 886),(.str uh 887)]
def CB:=HD.fs sL sL (ht 52)
def qX:=HD.cd sL sL aK 877 878 879 241 4 0 0 3 509 true 181 510 .none (.ref 511) (.ref 512) (.ref 513) 888 241 889
def qO:=HD.fu sL sL (ht 52) fO 827 514
def oP:=HD.tp [(.str Pt 894),(.str Om 895),(.str KO 896),(.str Ww 897),(.str Hw 898),(.str z8 899),(.str X3 900),(.str uh 901),(.str HL 902),(.str Xr 903),(.str N2 904),(.str Vt 905),(.str vI 906),(.str Xm 907),(.str Yn 908)]
def DU:=HD.fs t_ t_ (ht 53)
def qD:=HD.cd t_ t_ aK 891 892 893 257 5 0 0 3 516 true 181 517 .none (.ref 518) (.ref 519) (.ref 520) 909 257 910
def ou:=HD.fu t_ t_ (ht 53) fO 827 521
def qr:=HD.tp [(.str HL 915),(.str z8 916),(.str OK 917),(.str vI 918),(.str XJ 919)]
def Fe:=HD.fs sO sO (ht 54)
def qa:=HD.cd sO sO aK 912 913 914 281 2 0 0 3 523 true 181 524 .none (.ref 525) (.ref 526) (.ref 527) 920 281 921
def rn:=HD.fu sO sO (ht 54) fO 827 528
def ql:=HD.tp [(.str OK 926),(.str KO 927),(.str W6 928),(.str Uv 929)]
def DJ:=HD.fs sr sr (ht 55)
def qu:=HD.cd sr sr aK 923 924 925 293 3 0 0 3 530 true 181 531 .none (.ref 532) (.ref 533) (.ref 534) 930 293 931
def oQ:=HD.fu sr sr (ht 55) fO 827 535
def oZ:=HD.tp [(.str HL 936),(.str IS 937),(.str UQ 938),(.str vI 939),(.str N2 940)]
def C0:=HD.fs uf uf (ht 56)
def pj:=HD.cd uf uf aK 933 934 935 306 2 0 0 3 537 true 181 538 .none (.ref 539) (.ref 540) (.ref 541) 941 306 942
def oo:=HD.fu uf uf (ht 56) fO 827 542
def rN:=HD.tp [(.str z8 947),(.str Vc 948),(.str IP 949),(.str uh 950),(.str IS 951)]
def ER:=HD.fs uc uc (ht 57)
def oW:=HD.cd uc uc aK 944 945 946 317 1 0 0 3 544 true 181 545 .none (.ref 546) (.ref 547) (.ref 548) 952 317 953
def oJ:=HD.fu uc uc (ht 57) fO 827 549
def DB:=HD.fs tZ tZ (ht 58)
def pz:=HD.cd tZ tZ aK 955 956 957 327 4 0 0 3 551 true 181 552 .none .none .none (.ref 553) 958 327 959
def qz:=HD.fu tZ tZ (ht 58) fO 827 554
def Dh:=HD.fs uk uk (ht 59)
def qh:=HD.cd uk uk aK 961 962 963 347 1 0 0 3 556 true 181 557 .none .none .none (.ref 558) 964 347 965
def oB:=HD.fu uk uk (ht 59) fO 827 559
noncomputable def MY:List Stmt:=[ht 51,ht 52,ht 53,ht 54,ht 55,ht 56,ht 57,ht 58,ht 59]
noncomputable def aa0(P:Params):BT:=(HD.gJ [ae,aA,qq,ae,DQ,oM,qV,ae,aA,p7,ae,CB,qX,qO,ae,aA,oP,ae,DU,qD,ou,ae,aA,qr,ae,Fe,qa,rn,ae,aA,ql,ae,DJ,qu,oQ,ae,aA,oZ,ae,C0,pj,oo,ae,aA,rN,ae,ER,oW,oJ,ae,aA,DB,pz,qz,ae,aA,Dh,qh,oB] (((Wn P).ins (nat_lit 3) (DP P)).ins (nat_lit 12) (Kw)) (nat_lit 502))
noncomputable abbrev Gu(w:World)(os:OsState):SharedT:=⟨aa0 w.params,nat_lit 561,gC,Array.mk [],⟨0,0,0,0⟩,nat_lit 967,os⟩
noncomputable def VC:HD.ig (HD.F4):=λw=>(λos=>segRunT treeTable pw w (nat_lit 11) (some (.ref 6)) (nat_lit 1) (nat_lit 293) (GQ w os) (piecesOf MY dD bY ⟨231,0,236,13⟩ dn),λos=>some (Flow.next,Gu w os,bY,⟨347,0,358,105⟩))
theorem L4:HD.seg pw (nat_lit 11) (some (.ref 6)) (nat_lit 293) GQ Gu MY dD bY ⟨231,0,236,13⟩ ⟨347,0,358,105⟩ dn=VC:=by kernel_rfl
name_quick IT for VC by L4
theorem aap(w:World):(Fast.IT w).1=(Fast.IT w).2:=by kernel_rfl
theorem ZV:HD.Ok (HD.seg pw (nat_lit 11) (some (.ref 6)) (nat_lit 293) GQ Gu MY dD bY ⟨231,0,236,13⟩ ⟨347,0,358,105⟩ dn):=HD.gk Fast.IT_eq aap
noncomputable def UE(r:List (Obj)):List (Obj):=PySem.W.boot_o_0 P::PySem.W.boot_o_1 P::PySem.W.boot_o_2 P::DP P::PySem.W.boot_o_4 P::PySem.W.boot_o_5 P::PySem.W.boot_o_6 P::PySem.W.boot_o_7 P::PySem.W.boot_o_8 P::PySem.W.boot_o_9 P::PySem.W.boot_o_10 P::ae::r
noncomputable def Vv(r:List (Obj)):List (Obj):=Kw::K8::HR::ae::aA::Fz::ae::OD::DW::DF::Eg::b9::r
noncomputable def WS(r:List (Obj)):List (Obj):=Ou P::ae::Po::Pn::PV::ae::aA::EW::ae::Of::EU::Dc::r
noncomputable def W0(r:List (Obj)):List (Obj):=ae::CI P::yj::CU::NY::P7::aW::b9::Pz P::ae::N4::P5::r
noncomputable def Uy(r:List (Obj)):List (Obj):=N8::ae::aA::Ck::ae::P8::EL::DI::ae::Dq P::EE::Pp::r
noncomputable def Xn(r:List (Obj)):List (Obj):=Qc::aW::b9::Oa P::ae::PL::Pl::Qd::ae::aA::EV::ae::r
noncomputable def W5(r:List (Obj)):List (Obj):=PU::Ew::Dg::ae::E1 P::Fx::Pq::OM::aW::b9::OA P::ae::r
noncomputable def Wh(r:List (Obj)):List (Obj):=O2::PR::PZ::ae::aA::Fi::ae::OU::Dk::Ez::ae::Ft P::r
noncomputable def Ym(r:List (Obj)):List (Obj):=C1::Pe::NN::aW::b9::HQ P::ae::JQ::JG::Lq::ae::aA::r
noncomputable def XU(r:List (Obj)):List (Obj):=wX::ae::JP::xW::zd::ae::yw P::xC::Hr::Lw::aW::b9::r
noncomputable def QI(r:List (Obj)):List (Obj):=Hd P::ae::Jp::Ks::Li::ae::aA::xw::ae::Kr::xG::wN::r
noncomputable def Qi(r:List (Obj)):List (Obj):=ae::wM P::xr::KZ::Lz::aW::b9::JO P::ae::KY::IZ::J_::r
noncomputable def RM(r:List (Obj)):List (Obj):=ae::aA::yR::ae::IH::yu::ym::ae::yY P::yS::ID::Ja::r
noncomputable def Rw(r:List (Obj)):List (Obj):=aW::b9::Ip P::ae::Ki::HZ::Il::ae::aA::wR::ae::Jo::r
noncomputable def Tc(r:List (Obj)):List (Obj):=yK::w6::ae::wV P::zb::Ia::HH::aW::b9::Ky P::ae::HU::r
noncomputable def Rj(r:List (Obj)):List (Obj):=Js::I_::ae::aA::wK::ae::H_::wO::yF::ae::w4 P::zf::r
noncomputable def TX(r:List (Obj)):List (Obj):=IA::J7::aW::b9::Dx P::ae::Cr::EA::Ed::ae::aA::rJ::r
noncomputable def Qo(r:List (Obj)):List (Obj):=ae::Eo::r9::qF::ae::pP P::om::FC::EO::aW::b9::DD P::r
noncomputable def RI(r:List (Obj)):List (Obj):=ae::EX::CP::DV::ae::aA::rB::ae::Fv::pX::oK::ae::r
noncomputable def Tz(r:List (Obj)):List (Obj):=qp P::pQ::Fq::CM::aW::b9::D2 P::ae::CG::CC::Fw::ae::r
noncomputable def Qx(r:List (Obj)):List (Obj):=aA::qC::ae::DX::pE::rP::ae::qM P::n9::Dl::EB::aW::r
noncomputable def QA(r:List (Obj)):List (Obj):=b9::E7 P::ae::Ct::DA::Fp::ae::aA::pZ::ae::Fh::rF::r
noncomputable def Ta(r:List (Obj)):List (Obj):=pA::ae::qb P::qJ::CA::Ci::aW::b9::Cj P::ae::DC::Co::r
noncomputable def RC(r:List (Obj)):List (Obj):=Cp::ae::aA::qW::ae::CQ::oE::px::ae::rL P::oq::Et::r
noncomputable def Si(r:List (Obj)):List (Obj):=DS::aW::b9::Dz P::ae::Fc::DN::DO::ae::aA::pT::ae::r
noncomputable def Sh(r:List (Obj)):List (Obj):=FF::rW::rX::ae::pL P::qR::D3::C9::oF::qP P::ae::ae::r
noncomputable def Tj(r:List (Obj)):List (Obj):=p_::rE::pK::ae::pR::oI::ae::o_::oY::qL::rq::qx::r
noncomputable def TC(r:List (Obj)):List (Obj):=pb::pI::qw::E2 P::ae::ox P::ae::aA::D8::rl::rC::ae::r
noncomputable def QN(r:List (Obj)):List (Obj):=aA::Cs::qd::pD::ae::aA::qU::ae::CN::qS::pJ::ae::r
noncomputable def QJ(r:List (Obj)):List (Obj):=aA::CW::oy::pG::ae::aA::pW::ae::EM::qG::qN::ae::r
noncomputable def RQ(r:List (Obj)):List (Obj):=aA::Fj::rG::rD::ae::b9::EC P::ae::CO::Eu::Ff::ae::r
noncomputable def QL(r:List (Obj)):List (Obj):=aA::rT::ae::C3::qg::r_::ae::aA::oa::ae::CS::p9::r
noncomputable def Sl(r:List (Obj)):List (Obj):=qE::ae::aA::pF::ae::DE::oS::rQ::ae::aA::qH::ae::r
noncomputable def Sk(r:List (Obj)):List (Obj):=CJ::pO::og::ae::aA::oA::ae::FG::oz::se::rY::pS P::r
noncomputable def Rq(r:List (Obj)):List (Obj):=pH::qI::qZ::D7::Fu::ae::aA::pB::ae::D6::pq::ow::r
noncomputable def QH(r:List (Obj)):List (Obj):=ae::aA::qk::ae::EN::rH::pC::ae::aA::FD::pU::qo::r
noncomputable def Ra(r:List (Obj)):List (Obj):=ae::aA::q_::ae::C2::rA::rm::ae::aA::oG::ae::CD::r
noncomputable def Ry(r:List (Obj)):List (Obj):=qy::oV::ae::aA::p4::ae::Fy::qB::oN::ae::aA::rh::r
noncomputable def Qk(r:List (Obj)):List (Obj):=ae::Dy::qY::oh::ae::aA::pY::ae::C4::rV::qT::ae::r
noncomputable def Tp(r:List (Obj)):List (Obj):=aA::p8::ae::E5::oH::qc::ae::aA::rM::ae::CL::n_::r
noncomputable def SM(r:List (Obj)):List (Obj):=qv::ae::aA::rZ::ae::E_::oC::oj::ae::aA::pV::ae::r
noncomputable def TF(r:List (Obj)):List (Obj):=DZ::oU::rK::ae::aA::n8::ae::Ef::rS::rR::ae::aA::r
noncomputable def RJ(r:List (Obj)):List (Obj):=qq::ae::DQ::oM::qV::ae::aA::p7::ae::CB::qX::qO::r
noncomputable def S_(r:List (Obj)):List (Obj):=ae::aA::oP::ae::DU::qD::ou::ae::aA::qr::ae::Fe::r
noncomputable def RF(r:List (Obj)):List (Obj):=qa::rn::ae::aA::ql::ae::DJ::qu::oQ::ae::aA::oZ::r
noncomputable def Qz(r:List (Obj)):List (Obj):=ae::C0::pj::oo::ae::aA::rN::ae::ER::oW::oJ::ae::r
noncomputable def QZ(r:List (Obj)):List (Obj):=aA::DB::pz::qz::ae::aA::Dh::qh::oB::r
noncomputable def LF(P:Params):Heap:=⟨Array.mk (UE P (Vv (WS P (W0 P (Uy P (Xn P (W5 P (Wh P (Ym P (XU P (QI P (Qi P (RM P (Rw P (Tc P (Rj P (TX P (Qo P (RI (Tz P (Qx P (QA P (Ta P (RC P (Si P (Sh P (Tj (TC P (QN (QJ (RQ P (QL (Sl (Sk P (Rq (QH (Ra (Ry (Qk (Tp (SM (TF (RJ (S_ (RF (Qz (QZ []))))))))))))))))))))))))))))))))))))))))))))))),⟨[],[],[],0,[],[],false,#[],[],0,false,false,false,(.ofNat 0),[(.ofNat 2000),(.ofNat 10),(.ofNat 10)],false,0,true,[],[],0,false⟩⟩
noncomputable def RX:Drawn:=⟨0,0,0,0⟩
noncomputable def Sn:Nat:=nat_lit 967
noncomputable abbrev QQ:World->OsState->Shared:=HD.WD LF RX Sn
noncomputable def Zqz:HD.ig (Option Shared):=λw=>(λos=>topRun treeTable pw w (nat_lit 11) (some (.ref 6)) (nat_lit 2) (Gu w os).abs (Thread.mk (doneF Flow.next) bY ⟨347,0,358,105⟩ dn),λos=>some (QQ w os))
theorem SV:HD.fin pw (nat_lit 11) (some (.ref 6)) (nat_lit 2) Gu QQ (Thread.mk (doneF Flow.next) bY ⟨347,0,358,105⟩ dn)=Zqz:=by kernel_rfl
name_quick Oh for Zqz by SV
theorem Ziz(w:World):(Fast.Oh w).1=(Fast.Oh w).2:=by kernel_rfl
theorem Zhz:HD.Ok (HD.fin pw (nat_lit 11) (some (.ref 6)) (nat_lit 2) Gu QQ (Thread.mk (doneF Flow.next) bY ⟨347,0,358,105⟩ dn)):=HD.gk Fast.Oh_eq Ziz
theorem ZL:behindTheImports pw=(YO++(YS++(Y_++(Zf++(Yo++(YF++(YC++(YH++(Y8++(Mu++(MW++(MB++(Nz++(MG++(Nu++(F3++(FK++(Nn++(Mm++(MY++([]:List Stmt))))))))))))))))))))):=by kernel_rfl
theorem Vd:HD.Goes pw (nat_lit 11) (some (.ref 6)) QQ (nat_lit 12+(nat_lit 1+(nat_lit 255+(nat_lit 244+(nat_lit 244+(nat_lit 244+(nat_lit 244+(nat_lit 244+(nat_lit 244+(nat_lit 244+(nat_lit 244+(nat_lit 244+(nat_lit 244+(nat_lit 244+(nat_lit 244+(nat_lit 244+(nat_lit 313+(nat_lit 340+(nat_lit 284+(nat_lit 384+(nat_lit 379+(nat_lit 293+(nat_lit 2))))))))))))))))))))))) Ys (topStub pw):=HD.Wc Zha (HD.Xv ZL Zhb (HD.dY Zh1 (HD.dY Zh2 (HD.dY Zh3 (HD.dY Zh4 (HD.dY Zh5 (HD.dY Zh6 (HD.dY Zh7 (HD.dY Zh8 (HD.dY Zh9 (HD.dY aab (HD.dY aa4 (HD.dY Zp (HD.dY aaF (HD.dY aaa (HD.dY aau (HD.dY ZY (HD.dY ZA (HD.dY Zv (HD.dY ZC (HD.dY ZV (HD.VD (env:=dD) Zhz))))))))))))))))))))))
noncomputable def hq:Program:=HD.view pw [ht 0,ht 2,ht 3,ht 4,ht 5,ht 6,ht 7,ht 8,ht 9,ht 10,ht 11,ht 12,ht 13,ht 14,ht 15,ht 16,ht 18,ht 19,ht 20,ht 21,ht 22,ht 23,ht 24,ht 25,ht 26,ht 27,ht 28,ht 29,ht 30,ht 32,ht 34,ht 35,ht 36,ht 37,ht 38,ht 39,ht 40,ht 41,ht 42,ht 43,ht 44,ht 46,ht 47,ht 48,ht 49,ht 50,ht 51,ht 52,ht 53,ht 54,ht 55,ht 56,ht 57,ht 58,ht 59]
noncomputable def hl:List Str:=[PySem.Str.ofString "KIDS_DUE",PySem.Str.ofString "BINDER_OVER"]
noncomputable def UT(r:List (Addr×Obj)):List (Addr×Obj):=(nat_lit 2,PySem.W.boot_o_2 P)::(nat_lit 3,DP P)::(nat_lit 15,ae)::(nat_lit 17,Fz)::(nat_lit 18,ae)::(nat_lit 20,DW)::(nat_lit 21,DF)::(nat_lit 22,Eg)::(nat_lit 29,ae)::(nat_lit 31,EW)::(nat_lit 32,ae)::(nat_lit 34,EU)::r
noncomputable def VW(r:List (Addr×Obj)):List (Addr×Obj):=(nat_lit 35,Dc)::(nat_lit 36,ae)::(nat_lit 37,CI P)::(nat_lit 38,yj)::(nat_lit 39,CU)::(nat_lit 42,aW)::(nat_lit 49,ae)::(nat_lit 51,Ck)::(nat_lit 52,ae)::(nat_lit 54,EL)::(nat_lit 55,DI)::(nat_lit 56,ae)::r
noncomputable def VH(r:List (Addr×Obj)):List (Addr×Obj):=(nat_lit 57,Dq P)::(nat_lit 58,EE)::(nat_lit 61,aW)::(nat_lit 68,ae)::(nat_lit 70,EV)::(nat_lit 71,ae)::(nat_lit 73,Ew)::(nat_lit 74,Dg)::(nat_lit 75,ae)::(nat_lit 76,E1 P)::(nat_lit 77,Fx)::(nat_lit 80,aW)::r
noncomputable def XA(r:List (Addr×Obj)):List (Addr×Obj):=(nat_lit 87,ae)::(nat_lit 89,Fi)::(nat_lit 90,ae)::(nat_lit 92,Dk)::(nat_lit 93,Ez)::(nat_lit 94,ae)::(nat_lit 95,Ft P)::(nat_lit 96,C1)::(nat_lit 99,aW)::(nat_lit 106,ae)::(nat_lit 108,wX)::(nat_lit 109,ae)::r
noncomputable def Vg(r:List (Addr×Obj)):List (Addr×Obj):=(nat_lit 111,xW)::(nat_lit 112,zd)::(nat_lit 113,ae)::(nat_lit 114,yw P)::(nat_lit 115,xC)::(nat_lit 118,aW)::(nat_lit 125,ae)::(nat_lit 127,xw)::(nat_lit 128,ae)::(nat_lit 130,xG)::(nat_lit 131,wN)::(nat_lit 132,ae)::r
noncomputable def Xi(r:List (Addr×Obj)):List (Addr×Obj):=(nat_lit 133,wM P)::(nat_lit 134,xr)::(nat_lit 137,aW)::(nat_lit 144,ae)::(nat_lit 146,yR)::(nat_lit 147,ae)::(nat_lit 149,yu)::(nat_lit 150,ym)::(nat_lit 151,ae)::(nat_lit 152,yY P)::(nat_lit 153,yS)::(nat_lit 156,aW)::r
noncomputable def XH(r:List (Addr×Obj)):List (Addr×Obj):=(nat_lit 163,ae)::(nat_lit 165,wR)::(nat_lit 166,ae)::(nat_lit 168,yK)::(nat_lit 169,w6)::(nat_lit 170,ae)::(nat_lit 171,wV P)::(nat_lit 172,zb)::(nat_lit 175,aW)::(nat_lit 182,ae)::(nat_lit 184,wK)::(nat_lit 185,ae)::r
noncomputable def VJ(r:List (Addr×Obj)):List (Addr×Obj):=(nat_lit 187,wO)::(nat_lit 188,yF)::(nat_lit 189,ae)::(nat_lit 190,w4 P)::(nat_lit 191,zf)::(nat_lit 194,aW)::(nat_lit 201,ae)::(nat_lit 203,rJ)::(nat_lit 204,ae)::(nat_lit 206,r9)::(nat_lit 207,qF)::(nat_lit 208,ae)::r
noncomputable def W8(r:List (Addr×Obj)):List (Addr×Obj):=(nat_lit 209,pP P)::(nat_lit 210,om)::(nat_lit 213,aW)::(nat_lit 220,ae)::(nat_lit 222,rB)::(nat_lit 223,ae)::(nat_lit 225,pX)::(nat_lit 226,oK)::(nat_lit 227,ae)::(nat_lit 228,qp P)::(nat_lit 229,pQ)::(nat_lit 232,aW)::r
noncomputable def VL(r:List (Addr×Obj)):List (Addr×Obj):=(nat_lit 239,ae)::(nat_lit 241,qC)::(nat_lit 242,ae)::(nat_lit 244,pE)::(nat_lit 245,rP)::(nat_lit 246,ae)::(nat_lit 247,qM P)::(nat_lit 248,n9)::(nat_lit 251,aW)::(nat_lit 258,ae)::(nat_lit 260,pZ)::(nat_lit 261,ae)::r
noncomputable def SG(r:List (Addr×Obj)):List (Addr×Obj):=(nat_lit 263,rF)::(nat_lit 264,pA)::(nat_lit 265,ae)::(nat_lit 266,qb P)::(nat_lit 267,qJ)::(nat_lit 270,aW)::(nat_lit 277,ae)::(nat_lit 279,qW)::(nat_lit 280,ae)::(nat_lit 282,oE)::(nat_lit 283,px)::(nat_lit 284,ae)::r
noncomputable def R3(r:List (Addr×Obj)):List (Addr×Obj):=(nat_lit 285,rL P)::(nat_lit 286,oq)::(nat_lit 289,aW)::(nat_lit 296,ae)::(nat_lit 298,pT)::(nat_lit 299,ae)::(nat_lit 301,rW)::(nat_lit 302,rX)::(nat_lit 303,ae)::(nat_lit 304,pL P)::(nat_lit 305,qR)::(nat_lit 308,oF)::r
noncomputable def QC(r:List (Addr×Obj)):List (Addr×Obj):=(nat_lit 309,qP P)::(nat_lit 310,ae)::(nat_lit 311,ae)::(nat_lit 312,p_)::(nat_lit 313,rE)::(nat_lit 314,pK)::(nat_lit 315,ae)::(nat_lit 316,pR)::(nat_lit 317,oI)::(nat_lit 318,ae)::(nat_lit 319,o_)::(nat_lit 320,oY)::r
noncomputable def RL(r:List (Addr×Obj)):List (Addr×Obj):=(nat_lit 321,qL)::(nat_lit 322,rq)::(nat_lit 323,qx)::(nat_lit 324,pb)::(nat_lit 325,pI)::(nat_lit 326,qw)::(nat_lit 328,ae)::(nat_lit 329,ox P)::(nat_lit 330,ae)::(nat_lit 333,rl)::(nat_lit 334,rC)::(nat_lit 335,ae)::r
noncomputable def SN(r:List (Addr×Obj)):List (Addr×Obj):=(nat_lit 338,qd)::(nat_lit 339,pD)::(nat_lit 340,ae)::(nat_lit 342,qU)::(nat_lit 343,ae)::(nat_lit 345,qS)::(nat_lit 346,pJ)::(nat_lit 347,ae)::(nat_lit 350,oy)::(nat_lit 351,pG)::(nat_lit 352,ae)::(nat_lit 354,pW)::r
noncomputable def RT(r:List (Addr×Obj)):List (Addr×Obj):=(nat_lit 355,ae)::(nat_lit 357,qG)::(nat_lit 358,qN)::(nat_lit 359,ae)::(nat_lit 362,rG)::(nat_lit 363,rD)::(nat_lit 371,ae)::(nat_lit 373,rT)::(nat_lit 374,ae)::(nat_lit 376,qg)::(nat_lit 377,r_)::(nat_lit 378,ae)::r
noncomputable def RN(r:List (Addr×Obj)):List (Addr×Obj):=(nat_lit 380,oa)::(nat_lit 381,ae)::(nat_lit 383,p9)::(nat_lit 384,qE)::(nat_lit 385,ae)::(nat_lit 387,pF)::(nat_lit 388,ae)::(nat_lit 390,oS)::(nat_lit 391,rQ)::(nat_lit 392,ae)::(nat_lit 394,qH)::(nat_lit 395,ae)::r
noncomputable def QT(r:List (Addr×Obj)):List (Addr×Obj):=(nat_lit 397,pO)::(nat_lit 398,og)::(nat_lit 399,ae)::(nat_lit 401,oA)::(nat_lit 402,ae)::(nat_lit 404,oz)::(nat_lit 405,se)::(nat_lit 406,rY)::(nat_lit 407,pS P)::(nat_lit 408,pH)::(nat_lit 409,qI)::(nat_lit 410,qZ)::r
noncomputable def RG(r:List (Addr×Obj)):List (Addr×Obj):=(nat_lit 413,ae)::(nat_lit 415,pB)::(nat_lit 416,ae)::(nat_lit 418,pq)::(nat_lit 419,ow)::(nat_lit 420,ae)::(nat_lit 422,qk)::(nat_lit 423,ae)::(nat_lit 425,rH)::(nat_lit 426,pC)::(nat_lit 427,ae)::(nat_lit 430,pU)::r
noncomputable def Ss(r:List (Addr×Obj)):List (Addr×Obj):=(nat_lit 431,qo)::(nat_lit 432,ae)::(nat_lit 434,q_)::(nat_lit 435,ae)::(nat_lit 437,rA)::(nat_lit 438,rm)::(nat_lit 439,ae)::(nat_lit 441,oG)::(nat_lit 442,ae)::(nat_lit 444,qy)::(nat_lit 445,oV)::(nat_lit 446,ae)::r
noncomputable def Rf(r:List (Addr×Obj)):List (Addr×Obj):=(nat_lit 448,p4)::(nat_lit 449,ae)::(nat_lit 451,qB)::(nat_lit 452,oN)::(nat_lit 453,ae)::(nat_lit 455,rh)::(nat_lit 456,ae)::(nat_lit 458,qY)::(nat_lit 459,oh)::(nat_lit 460,ae)::(nat_lit 462,pY)::(nat_lit 463,ae)::r
noncomputable def Ql(r:List (Addr×Obj)):List (Addr×Obj):=(nat_lit 465,rV)::(nat_lit 466,qT)::(nat_lit 467,ae)::(nat_lit 469,p8)::(nat_lit 470,ae)::(nat_lit 472,oH)::(nat_lit 473,qc)::(nat_lit 474,ae)::(nat_lit 476,rM)::(nat_lit 477,ae)::(nat_lit 479,n_)::(nat_lit 480,qv)::r
noncomputable def RV(r:List (Addr×Obj)):List (Addr×Obj):=(nat_lit 481,ae)::(nat_lit 483,rZ)::(nat_lit 484,ae)::(nat_lit 486,oC)::(nat_lit 487,oj)::(nat_lit 488,ae)::(nat_lit 490,pV)::(nat_lit 491,ae)::(nat_lit 493,oU)::(nat_lit 494,rK)::(nat_lit 495,ae)::(nat_lit 497,n8)::r
noncomputable def Sg(r:List (Addr×Obj)):List (Addr×Obj):=(nat_lit 498,ae)::(nat_lit 500,rS)::(nat_lit 501,rR)::(nat_lit 502,ae)::(nat_lit 504,qq)::(nat_lit 505,ae)::(nat_lit 507,oM)::(nat_lit 508,qV)::(nat_lit 509,ae)::(nat_lit 511,p7)::(nat_lit 512,ae)::(nat_lit 514,qX)::r
noncomputable def SU(r:List (Addr×Obj)):List (Addr×Obj):=(nat_lit 515,qO)::(nat_lit 516,ae)::(nat_lit 518,oP)::(nat_lit 519,ae)::(nat_lit 521,qD)::(nat_lit 522,ou)::(nat_lit 523,ae)::(nat_lit 525,qr)::(nat_lit 526,ae)::(nat_lit 528,qa)::(nat_lit 529,rn)::(nat_lit 530,ae)::r
noncomputable def TR(r:List (Addr×Obj)):List (Addr×Obj):=(nat_lit 532,ql)::(nat_lit 533,ae)::(nat_lit 535,qu)::(nat_lit 536,oQ)::(nat_lit 537,ae)::(nat_lit 539,oZ)::(nat_lit 540,ae)::(nat_lit 542,pj)::(nat_lit 543,oo)::(nat_lit 544,ae)::(nat_lit 546,rN)::(nat_lit 547,ae)::r
noncomputable def RA(r:List (Addr×Obj)):List (Addr×Obj):=(nat_lit 549,oW)::(nat_lit 550,oJ)::(nat_lit 551,ae)::(nat_lit 554,pz)::(nat_lit 555,qz)::(nat_lit 556,ae)::(nat_lit 559,qh)::(nat_lit 560,oB)::r
noncomputable def aa5(P:Params):List (Addr×Obj):=(UT P (VW P (VH P (XA P (Vg P (Xi P (XH P (VJ P (W8 P (VL P (SG P (R3 P (QC P (RL P (SN (RT (RN (QT P (RG (Ss (Rf (Ql (RV (Sg (SU (TR (RA [])))))))))))))))))))))))))))
noncomputable def ZhK(P:Params):Frag:=(nat_lit 2,PySem.W.boot_o_2 P)::(nat_lit 3,DP P)::(nat_lit 15,ae)::(nat_lit 17,Fz)::(nat_lit 18,ae)::(nat_lit 20,DW)::(nat_lit 21,DF)::(nat_lit 22,Eg)::(nat_lit 29,ae)::(nat_lit 31,EW)::(nat_lit 32,ae)::(nat_lit 34,EU)::(nat_lit 35,Dc)::(nat_lit 36,ae)::(nat_lit 37,CI P)::(nat_lit 38,yj)::(nat_lit 39,CU)::(nat_lit 42,aW)::(nat_lit 49,ae)::(nat_lit 51,Ck)::(nat_lit 52,ae)::(nat_lit 54,EL)::(nat_lit 55,DI)::(nat_lit 56,ae)::(nat_lit 57,Dq P)::(nat_lit 58,EE)::(nat_lit 61,aW)::(nat_lit 68,ae)::(nat_lit 70,EV)::(nat_lit 71,ae)::(nat_lit 73,Ew)::(nat_lit 74,Dg)::(nat_lit 75,ae)::(nat_lit 76,E1 P)::(nat_lit 77,Fx)::(nat_lit 80,aW)::(nat_lit 87,ae)::(nat_lit 89,Fi)::(nat_lit 90,ae)::(nat_lit 92,Dk)::(nat_lit 93,Ez)::(nat_lit 94,ae)::(nat_lit 95,Ft P)::(nat_lit 96,C1)::(nat_lit 99,aW)::(nat_lit 106,ae)::(nat_lit 108,wX)::(nat_lit 109,ae)::(nat_lit 111,xW)::(nat_lit 112,zd)::(nat_lit 113,ae)::(nat_lit 114,yw P)::(nat_lit 115,xC)::(nat_lit 118,aW)::(nat_lit 125,ae)::(nat_lit 127,xw)::(nat_lit 128,ae)::(nat_lit 130,xG)::(nat_lit 131,wN)::(nat_lit 132,ae)::(nat_lit 133,wM P)::(nat_lit 134,xr)::(nat_lit 137,aW)::(nat_lit 144,ae)::(nat_lit 146,yR)::(nat_lit 147,ae)::(nat_lit 149,yu)::(nat_lit 150,ym)::(nat_lit 151,ae)::(nat_lit 152,yY P)::(nat_lit 153,yS)::(nat_lit 156,aW)::(nat_lit 163,ae)::(nat_lit 165,wR)::(nat_lit 166,ae)::(nat_lit 168,yK)::(nat_lit 169,w6)::(nat_lit 170,ae)::(nat_lit 171,wV P)::(nat_lit 172,zb)::(nat_lit 175,aW)::(nat_lit 182,ae)::(nat_lit 184,wK)::(nat_lit 185,ae)::(nat_lit 187,wO)::(nat_lit 188,yF)::(nat_lit 189,ae)::(nat_lit 190,w4 P)::(nat_lit 191,zf)::(nat_lit 194,aW)::(nat_lit 201,ae)::(nat_lit 203,rJ)::(nat_lit 204,ae)::(nat_lit 206,r9)::(nat_lit 207,qF)::(nat_lit 208,ae)::(nat_lit 209,pP P)::(nat_lit 210,om)::(nat_lit 213,aW)::(nat_lit 220,ae)::(nat_lit 222,rB)::(nat_lit 223,ae)::(nat_lit 225,pX)::(nat_lit 226,oK)::(nat_lit 227,ae)::(nat_lit 228,qp P)::(nat_lit 229,pQ)::(nat_lit 232,aW)::(nat_lit 239,ae)::(nat_lit 241,qC)::(nat_lit 242,ae)::(nat_lit 244,pE)::(nat_lit 245,rP)::(nat_lit 246,ae)::(nat_lit 247,qM P)::(nat_lit 248,n9)::(nat_lit 251,aW)::(nat_lit 258,ae)::(nat_lit 260,pZ)::(nat_lit 261,ae)::(nat_lit 263,rF)::(nat_lit 264,pA)::(nat_lit 265,ae)::(nat_lit 266,qb P)::(nat_lit 267,qJ)::(nat_lit 270,aW)::(nat_lit 277,ae)::(nat_lit 279,qW)::(nat_lit 280,ae)::(nat_lit 282,oE)::(nat_lit 283,px)::(nat_lit 284,ae)::(nat_lit 285,rL P)::(nat_lit 286,oq)::(nat_lit 289,aW)::(nat_lit 296,ae)::(nat_lit 298,pT)::(nat_lit 299,ae)::(nat_lit 301,rW)::(nat_lit 302,rX)::(nat_lit 303,ae)::(nat_lit 304,pL P)::(nat_lit 305,qR)::(nat_lit 308,oF)::(nat_lit 309,qP P)::(nat_lit 310,ae)::(nat_lit 311,ae)::(nat_lit 312,p_)::(nat_lit 313,rE)::(nat_lit 314,pK)::(nat_lit 315,ae)::(nat_lit 316,pR)::(nat_lit 317,oI)::(nat_lit 318,ae)::(nat_lit 319,o_)::(nat_lit 320,oY)::(nat_lit 321,qL)::(nat_lit 322,rq)::(nat_lit 323,qx)::(nat_lit 324,pb)::(nat_lit 325,pI)::(nat_lit 326,qw)::(nat_lit 328,ae)::(nat_lit 329,ox P)::(nat_lit 330,ae)::(nat_lit 333,rl)::(nat_lit 334,rC)::(nat_lit 335,ae)::(nat_lit 338,qd)::(nat_lit 339,pD)::(nat_lit 340,ae)::(nat_lit 342,qU)::(nat_lit 343,ae)::(nat_lit 345,qS)::(nat_lit 346,pJ)::(nat_lit 347,ae)::(nat_lit 350,oy)::(nat_lit 351,pG)::(nat_lit 352,ae)::(nat_lit 354,pW)::(nat_lit 355,ae)::(nat_lit 357,qG)::(nat_lit 358,qN)::(nat_lit 359,ae)::(nat_lit 362,rG)::(nat_lit 363,rD)::(nat_lit 371,ae)::(nat_lit 373,rT)::(nat_lit 374,ae)::(nat_lit 376,qg)::(nat_lit 377,r_)::(nat_lit 378,ae)::(nat_lit 380,oa)::(nat_lit 381,ae)::(nat_lit 383,p9)::(nat_lit 384,qE)::(nat_lit 385,ae)::(nat_lit 387,pF)::(nat_lit 388,ae)::(nat_lit 390,oS)::(nat_lit 391,rQ)::(nat_lit 392,ae)::(nat_lit 394,qH)::(nat_lit 395,ae)::(nat_lit 397,pO)::(nat_lit 398,og)::(nat_lit 399,ae)::(nat_lit 401,oA)::(nat_lit 402,ae)::(nat_lit 404,oz)::(nat_lit 405,se)::(nat_lit 406,rY)::(nat_lit 407,pS P)::(nat_lit 408,pH)::(nat_lit 409,qI)::(nat_lit 410,qZ)::(nat_lit 413,ae)::(nat_lit 415,pB)::(nat_lit 416,ae)::(nat_lit 418,pq)::(nat_lit 419,ow)::(nat_lit 420,ae)::(nat_lit 422,qk)::(nat_lit 423,ae)::(nat_lit 425,rH)::(nat_lit 426,pC)::(nat_lit 427,ae)::(nat_lit 430,pU)::(nat_lit 431,qo)::(nat_lit 432,ae)::(nat_lit 434,q_)::(nat_lit 435,ae)::(nat_lit 437,rA)::(nat_lit 438,rm)::(nat_lit 439,ae)::(nat_lit 441,oG)::(nat_lit 442,ae)::(nat_lit 444,qy)::(nat_lit 445,oV)::(nat_lit 446,ae)::(nat_lit 448,p4)::(nat_lit 449,ae)::(nat_lit 451,qB)::(nat_lit 452,oN)::(nat_lit 453,ae)::(nat_lit 455,rh)::(nat_lit 456,ae)::(nat_lit 458,qY)::(nat_lit 459,oh)::(nat_lit 460,ae)::(nat_lit 462,pY)::(nat_lit 463,ae)::(nat_lit 465,rV)::(nat_lit 466,qT)::(nat_lit 467,ae)::(nat_lit 469,p8)::(nat_lit 470,ae)::(nat_lit 472,oH)::(nat_lit 473,qc)::(nat_lit 474,ae)::(nat_lit 476,rM)::(nat_lit 477,ae)::(nat_lit 479,n_)::(nat_lit 480,qv)::(nat_lit 481,ae)::(nat_lit 483,rZ)::(nat_lit 484,ae)::(nat_lit 486,oC)::(nat_lit 487,oj)::(nat_lit 488,ae)::(nat_lit 490,pV)::(nat_lit 491,ae)::(nat_lit 493,oU)::(nat_lit 494,rK)::(nat_lit 495,ae)::(nat_lit 497,n8)::(nat_lit 498,ae)::(nat_lit 500,rS)::(nat_lit 501,rR)::(nat_lit 502,ae)::(nat_lit 504,qq)::(nat_lit 505,ae)::(nat_lit 507,oM)::(nat_lit 508,qV)::(nat_lit 509,ae)::(nat_lit 511,p7)::(nat_lit 512,ae)::(nat_lit 514,qX)::(nat_lit 515,qO)::(nat_lit 516,ae)::(nat_lit 518,oP)::(nat_lit 519,ae)::(nat_lit 521,qD)::(nat_lit 522,ou)::(nat_lit 523,ae)::(nat_lit 525,qr)::(nat_lit 526,ae)::(nat_lit 528,qa)::(nat_lit 529,rn)::(nat_lit 530,ae)::(nat_lit 532,ql)::(nat_lit 533,ae)::(nat_lit 535,qu)::(nat_lit 536,oQ)::(nat_lit 537,ae)::(nat_lit 539,oZ)::(nat_lit 540,ae)::(nat_lit 542,pj)::(nat_lit 543,oo)::(nat_lit 544,ae)::(nat_lit 546,rN)::(nat_lit 547,ae)::(nat_lit 549,oW)::(nat_lit 550,oJ)::(nat_lit 551,ae)::(nat_lit 554,pz)::(nat_lit 555,qz)::(nat_lit 556,ae)::(nat_lit 559,qh)::(nat_lit 560,oB)::[]
noncomputable def ZhA:List Addr:=[nat_lit 2,nat_lit 3,nat_lit 15,nat_lit 17,nat_lit 18,nat_lit 20,nat_lit 21,nat_lit 22,nat_lit 29,nat_lit 31,nat_lit 32,nat_lit 34,nat_lit 35,nat_lit 36,nat_lit 37,nat_lit 38,nat_lit 39,nat_lit 42,nat_lit 49,nat_lit 51,nat_lit 52,nat_lit 54,nat_lit 55,nat_lit 56,nat_lit 57,nat_lit 58,nat_lit 61,nat_lit 68,nat_lit 70,nat_lit 71,nat_lit 73,nat_lit 74,nat_lit 75,nat_lit 76,nat_lit 77,nat_lit 80,nat_lit 87,nat_lit 89,nat_lit 90,nat_lit 92,nat_lit 93,nat_lit 94,nat_lit 95,nat_lit 96,nat_lit 99,nat_lit 106,nat_lit 108,nat_lit 109,nat_lit 111,nat_lit 112,nat_lit 113,nat_lit 114,nat_lit 115,nat_lit 118,nat_lit 125,nat_lit 127,nat_lit 128,nat_lit 130,nat_lit 131,nat_lit 132,nat_lit 133,nat_lit 134,nat_lit 137,nat_lit 144,nat_lit 146,nat_lit 147,nat_lit 149,nat_lit 150,nat_lit 151,nat_lit 152,nat_lit 153,nat_lit 156,nat_lit 163,nat_lit 165,nat_lit 166,nat_lit 168,nat_lit 169,nat_lit 170,nat_lit 171,nat_lit 172,nat_lit 175,nat_lit 182,nat_lit 184,nat_lit 185,nat_lit 187,nat_lit 188,nat_lit 189,nat_lit 190,nat_lit 191,nat_lit 194,nat_lit 201,nat_lit 203,nat_lit 204,nat_lit 206,nat_lit 207,nat_lit 208,nat_lit 209,nat_lit 210,nat_lit 213,nat_lit 220,nat_lit 222,nat_lit 223,nat_lit 225,nat_lit 226,nat_lit 227,nat_lit 228,nat_lit 229,nat_lit 232,nat_lit 239,nat_lit 241,nat_lit 242,nat_lit 244,nat_lit 245,nat_lit 246,nat_lit 247,nat_lit 248,nat_lit 251,nat_lit 258,nat_lit 260,nat_lit 261,nat_lit 263,nat_lit 264,nat_lit 265,nat_lit 266,nat_lit 267,nat_lit 270,nat_lit 277,nat_lit 279,nat_lit 280,nat_lit 282,nat_lit 283,nat_lit 284,nat_lit 285,nat_lit 286,nat_lit 289,nat_lit 296,nat_lit 298,nat_lit 299,nat_lit 301,nat_lit 302,nat_lit 303,nat_lit 304,nat_lit 305,nat_lit 308,nat_lit 309,nat_lit 310,nat_lit 311,nat_lit 312,nat_lit 313,nat_lit 314,nat_lit 315,nat_lit 316,nat_lit 317,nat_lit 318,nat_lit 319,nat_lit 320,nat_lit 321,nat_lit 322,nat_lit 323,nat_lit 324,nat_lit 325,nat_lit 326,nat_lit 328,nat_lit 329,nat_lit 330,nat_lit 333,nat_lit 334,nat_lit 335,nat_lit 338,nat_lit 339,nat_lit 340,nat_lit 342,nat_lit 343,nat_lit 345,nat_lit 346,nat_lit 347,nat_lit 350,nat_lit 351,nat_lit 352,nat_lit 354,nat_lit 355,nat_lit 357,nat_lit 358,nat_lit 359,nat_lit 362,nat_lit 363,nat_lit 371,nat_lit 373,nat_lit 374,nat_lit 376,nat_lit 377,nat_lit 378,nat_lit 380,nat_lit 381,nat_lit 383,nat_lit 384,nat_lit 385,nat_lit 387,nat_lit 388,nat_lit 390,nat_lit 391,nat_lit 392,nat_lit 394,nat_lit 395,nat_lit 397,nat_lit 398,nat_lit 399,nat_lit 401,nat_lit 402,nat_lit 404,nat_lit 405,nat_lit 406,nat_lit 407,nat_lit 408,nat_lit 409,nat_lit 410,nat_lit 413,nat_lit 415,nat_lit 416,nat_lit 418,nat_lit 419,nat_lit 420,nat_lit 422,nat_lit 423,nat_lit 425,nat_lit 426,nat_lit 427,nat_lit 430,nat_lit 431,nat_lit 432,nat_lit 434,nat_lit 435,nat_lit 437,nat_lit 438,nat_lit 439,nat_lit 441,nat_lit 442,nat_lit 444,nat_lit 445,nat_lit 446,nat_lit 448,nat_lit 449,nat_lit 451,nat_lit 452,nat_lit 453,nat_lit 455,nat_lit 456,nat_lit 458,nat_lit 459,nat_lit 460,nat_lit 462,nat_lit 463,nat_lit 465,nat_lit 466,nat_lit 467,nat_lit 469,nat_lit 470,nat_lit 472,nat_lit 473,nat_lit 474,nat_lit 476,nat_lit 477,nat_lit 479,nat_lit 480,nat_lit 481,nat_lit 483,nat_lit 484,nat_lit 486,nat_lit 487,nat_lit 488,nat_lit 490,nat_lit 491,nat_lit 493,nat_lit 494,nat_lit 495,nat_lit 497,nat_lit 498,nat_lit 500,nat_lit 501,nat_lit 502,nat_lit 504,nat_lit 505,nat_lit 507,nat_lit 508,nat_lit 509,nat_lit 511,nat_lit 512,nat_lit 514,nat_lit 515,nat_lit 516,nat_lit 518,nat_lit 519,nat_lit 521,nat_lit 522,nat_lit 523,nat_lit 525,nat_lit 526,nat_lit 528,nat_lit 529,nat_lit 530,nat_lit 532,nat_lit 533,nat_lit 535,nat_lit 536,nat_lit 537,nat_lit 539,nat_lit 540,nat_lit 542,nat_lit 543,nat_lit 544,nat_lit 546,nat_lit 547,nat_lit 549,nat_lit 550,nat_lit 551,nat_lit 554,nat_lit 555,nat_lit 556,nat_lit 559,nat_lit 560]
noncomputable def hX(s:Shared):Bool:=xlAt hq [] s&&recOk [] s
noncomputable abbrev hH:Hook:=kHook ZhK ZhA (λ_=>by kernel_rfl)
noncomputable def Zqs:HD.ig ((Bool×Nat×Option Value)):=λw=>(λos=>((boot_heap w.params).isNs mainGlobals&&(Array.mk []:Array GenState).size==0,(boot_heap w.params).objs.size,(boot_heap w.params).nsMap mainGlobals "__annotations__"),λos=>(true,(nat_lit 11),(some (.ref 6))))
theorem Q2:HD.sz (nat_lit 11) (some (.ref 6))=Zqs:=by kernel_rfl
name_quick O5 for Zqs by Q2
theorem Zis(w:World):(Fast.O5 w).1=(Fast.O5 w).2:=by kernel_rfl
theorem Zhs:HD.Ok (HD.sz (nat_lit 11) (some (.ref 6))):=HD.gk Fast.O5_eq Zis
noncomputable def Wl:HD.ig (Bool):=λw=>(λos=>(staticsOk (importedModules pw.main.body) (boot_heap w.params) (LF w.params)&&namesBound pw (LF w.params)&&gensDone (QQ w os)&&laidKept (boot_heap w.params) (LF w.params)),λos=>true)
theorem Mn:HD.la pw LF RX Sn=Wl:=by kernel_rfl
name_quick KR for Wl by Mn
theorem aav(w:World):(Fast.KR w).1=(Fast.KR w).2:=by kernel_rfl
theorem aaE:HD.Ok (HD.la pw LF RX Sn):=HD.gk Fast.KR_eq aav
noncomputable def VU(w:World):=((λos:OsState=>openSeen hq hl (importedModules pw.main.body) hX true (QQ w os)),(λ_:OsState=>openGood hq hl))
theorem Na:HD.lb pw hq hl hX LF RX Sn=VU:=by kernel_rfl
name_quick KG for VU by Na
theorem aaz(w:World):(Fast.KG w).1=(Fast.KG w).2:=by kernel_rfl
theorem aaT:HD.Ok (HD.lb pw hq hl hX LF RX Sn):=HD.gk Fast.KG_eq aaz
noncomputable def VS:HD.ig ((List (Option Obj))):=λw=>(λos=>ZhA.map (QQ w os).heap.get?,λos=>(aa5 w.params).map λp=>some p.2)
theorem MF:HD.lc hH LF RX Sn=VS:=by kernel_rfl
name_quick Hm for VS by MF
theorem Zr(w:World):(Fast.Hm w).1=(Fast.Hm w).2:=by kernel_rfl
theorem aay:HD.Ok (HD.lc hH LF RX Sn):=HD.gk Fast.Hm_eq Zr
theorem hleft:LeftO pw hq hl hX hH.obs hH.val 10926:=HD.left (by kernel_rfl) (by decide) (λs=>by kernel_rfl) Zhs Vd (by decide+kernel) aaE aaT aay
end K54
end
open PySem PySem.W PyProof.Rows
set_option maxRecDepth 100000 in
set_option maxHeartbeats 0 in
theorem PySem.Challenge.cw_keeper_k54_texts_refused_holds : PySem.Challenge.rw_keeper_k54_texts_refused.Holds := by
  w_on; o_law
  refine PySem.W.holds_open (q := K54.hq) (loose := K54.hl) (Xt := K54.hX) (XP := PySem.W.XL K54.hq []) (Yf := PySem.W.Hook.obs K54.hH) (Ya := PySem.W.Hook.val K54.hH) (YP := PySem.W.Hook.says K54.hH) (N := 10926) K54.hleft (PySem.W.Hook.of _) (PySem.W.Hook.keeps _) (fun s e => PySem.W.xl_of s (Bool.and_eq_true_iff.mp e).1) PySem.W.XL.keeps (by rfl) (by rfl) (by rfl) (fun s e => PySem.W.recFacts_of (Bool.and_eq_true_iff.mp e).2) (by rfl) (by assumption) (by decide +kernel) ⟨rfl, rfl, rfl, rfl, rfl, by decide +kernel⟩ ?hw ?hc
  case hw => w_witness2
  delta K54.hH
  k_fill
  refine K54.walk (l := PySem.Challenge.rw_keeper_k54_texts_refused) rfl rfl (fun w h Y => PySem.W.kIn_of Y) ?F
  case F =>
    intro w mg fa h KX G hmg
    have T : ∃ t, K54.Txt (L2.KOf KX) mg t := by
      dsimp only [L2.KOf]
      refine' K54.txt_mk KX G ?a0 ?a1 ?a2 ?a3 ?a4 ?a5 ?a6 ?a7 ?a8 ?a9 ?a10 ?a11 ?a12 ?a13 ?a14 ?a15 ?a16 ?a17 ?a18 ?a19 ?a20 ?a21 ?a22 ?a23 ?a24 ?a25 ?a26 ?a27 ?z_ValueError ?z_all ?z_int ?z_isinstance ?z_len ?z_list ?z_max ?z_min ?z_range ?z_reversed ?z_str ?z_tuple ?g_MOST_KNOTS ?g_MOST_DEEP ?g_MOST_VARIABLE ?g_MOST_LETTERS ?g_LETTERS ?g_KIND_WORDS ?lk_KIND_WORDS ?vs_KIND_WORDS ?g_KIDS_DUE ?lk_KIDS_DUE ?sy_KIDS_DUE ?ks_KIDS_DUE ?rf_KIDS_DUE ?u0_KIDS_DUE ?v0_KIDS_DUE ?u1_KIDS_DUE ?v1_KIDS_DUE ?u2_KIDS_DUE ?v2_KIDS_DUE ?u3_KIDS_DUE ?v3_KIDS_DUE ?u4_KIDS_DUE ?v4_KIDS_DUE ?u5_KIDS_DUE ?v5_KIDS_DUE ?u6_KIDS_DUE ?v6_KIDS_DUE ?u7_KIDS_DUE ?v7_KIDS_DUE ?u8_KIDS_DUE ?v8_KIDS_DUE ?u9_KIDS_DUE ?v9_KIDS_DUE ?u10_KIDS_DUE ?v10_KIDS_DUE ?u11_KIDS_DUE ?v11_KIDS_DUE ?u12_KIDS_DUE ?v12_KIDS_DUE ?u13_KIDS_DUE ?v13_KIDS_DUE ?u14_KIDS_DUE ?v14_KIDS_DUE ?u15_KIDS_DUE ?v15_KIDS_DUE ?u16_KIDS_DUE ?v16_KIDS_DUE ?u17_KIDS_DUE ?v17_KIDS_DUE ?g_BINDER_OVER ?lk_BINDER_OVER ?sy_BINDER_OVER ?vs_BINDER_OVER ?g_FIGURES ?g_MOST_FIGURE ?g_KeeperError ?g_Great ?g_NoPlace ?g_NoStep ?g_Dry ?g_NoVariable ?g_NoName ?g_NotAll ?g_NotSome ?g_NotSame ?g_Unlike ?g_NoText ?g_NoWord ?g_TwiceTold ?g_NotClosed ?g_Form ?pg_Form ?hd_Form ?po_Form ?sa_Form ?mk_Form ?kp_Form ?na_Form_word ?na_Form_name ?na_Form_due ?na_Form_parts ?a_Form_init ?l_Form_init ?c_Form_init ?k_Form_init ?n_Form_init ?a_Form_binds_here ?l_Form_binds_here ?c_Form_binds_here ?k_Form_binds_here ?n_Form_binds_here ?a_Form_is_full ?l_Form_is_full ?c_Form_is_full ?k_Form_is_full ?n_Form_is_full ?a_Form_take ?l_Form_take ?c_Form_take ?k_Form_take ?n_Form_take ?a_Form_closed ?l_Form_closed ?c_Form_closed ?k_Form_closed ?n_Form_closed ?x_nt ?x_ke ?x_gr ?x_c1 ?x_c2 ?x_c3 ?x_c4 ?x_c5 ?x_c6 ?x_s2 ?x_k1 ?x_k2 ?x_a1 ?x_a2
      (case a0 => apply L3.dfi; iterate 4 k_is)
      (case a1 => apply L3.dfi; iterate 4 k_is)
      (case a2 => apply L3.dfi; iterate 4 k_is)
      (case a3 => apply L3.dfi; iterate 4 k_is)
      (case a4 => apply L3.dfi; iterate 4 k_is)
      (case a5 => apply L3.dfi; iterate 4 k_is)
      (case a6 => apply L3.dfi; iterate 4 k_is)
      (case a7 => apply L3.dfi; iterate 4 k_is)
      (case a8 => apply L3.dfi; iterate 4 k_is)
      (case a9 => apply L3.dfi; iterate 4 k_is)
      (case a10 => apply L3.dfi; iterate 4 k_is)
      (case a11 => apply L3.dfi; iterate 4 k_is)
      (case a12 => apply L3.dfi; iterate 4 k_is)
      (case a13 => apply L3.dfi; iterate 4 k_is)
      (case a14 => apply L3.dfi; iterate 4 k_is)
      (case a15 => apply L3.dfi; iterate 4 k_is)
      (case a16 => apply L3.dfi; iterate 4 k_is)
      (case a17 => apply L3.dfi; iterate 4 k_is)
      (case a18 => apply L3.dfi; iterate 4 k_is)
      (case a19 => apply L3.dfi; iterate 4 k_is)
      (case a20 => apply L3.dfi; iterate 4 k_is)
      (case a21 => apply L3.dfi; iterate 4 k_is)
      (case a22 => apply L3.dfi; iterate 4 k_is)
      (case a23 => apply L3.dfi; iterate 4 k_is)
      (case a24 => apply L3.dfi; iterate 4 k_is)
      (case a25 => apply L3.dfi; iterate 4 k_is)
      (case a26 => apply L3.dfi; iterate 4 k_is)
      (case a27 => apply L3.dfi; iterate 4 k_is)
      (case z_ValueError => k_is)
      (case z_all => k_is)
      (case z_int => k_is)
      (case z_isinstance => k_is)
      (case z_len => k_is)
      (case z_list => k_is)
      (case z_max => k_is)
      (case z_min => k_is)
      (case z_range => k_is)
      (case z_reversed => k_is)
      (case z_str => k_is)
      (case z_tuple => k_is)
      (case g_MOST_KNOTS => k_is)
      (case g_MOST_DEEP => k_is)
      (case g_MOST_VARIABLE => k_is)
      (case g_MOST_LETTERS => k_is)
      (case g_LETTERS => k_is)
      (case g_KIND_WORDS => k_is)
      (case lk_KIND_WORDS => k_is)
      (case vs_KIND_WORDS => decide +kernel)
      (case g_KIDS_DUE => k_is)
      (case lk_KIDS_DUE => k_is)
      (case sy_KIDS_DUE => decide +kernel)
      (case ks_KIDS_DUE => kernel_rfl)
      (case rf_KIDS_DUE => (dsimp only [HD.e]; rfl))
      (case u0_KIDS_DUE => k_is)
      (case v0_KIDS_DUE => decide +kernel)
      (case u1_KIDS_DUE => k_is)
      (case v1_KIDS_DUE => decide +kernel)
      (case u2_KIDS_DUE => k_is)
      (case v2_KIDS_DUE => decide +kernel)
      (case u3_KIDS_DUE => k_is)
      (case v3_KIDS_DUE => decide +kernel)
      (case u4_KIDS_DUE => k_is)
      (case v4_KIDS_DUE => decide +kernel)
      (case u5_KIDS_DUE => k_is)
      (case v5_KIDS_DUE => decide +kernel)
      (case u6_KIDS_DUE => k_is)
      (case v6_KIDS_DUE => decide +kernel)
      (case u7_KIDS_DUE => k_is)
      (case v7_KIDS_DUE => decide +kernel)
      (case u8_KIDS_DUE => k_is)
      (case v8_KIDS_DUE => decide +kernel)
      (case u9_KIDS_DUE => k_is)
      (case v9_KIDS_DUE => decide +kernel)
      (case u10_KIDS_DUE => k_is)
      (case v10_KIDS_DUE => decide +kernel)
      (case u11_KIDS_DUE => k_is)
      (case v11_KIDS_DUE => decide +kernel)
      (case u12_KIDS_DUE => k_is)
      (case v12_KIDS_DUE => decide +kernel)
      (case u13_KIDS_DUE => k_is)
      (case v13_KIDS_DUE => decide +kernel)
      (case u14_KIDS_DUE => k_is)
      (case v14_KIDS_DUE => decide +kernel)
      (case u15_KIDS_DUE => k_is)
      (case v15_KIDS_DUE => decide +kernel)
      (case u16_KIDS_DUE => k_is)
      (case v16_KIDS_DUE => decide +kernel)
      (case u17_KIDS_DUE => k_is)
      (case v17_KIDS_DUE => decide +kernel)
      (case g_BINDER_OVER => k_is)
      (case lk_BINDER_OVER => k_is)
      (case sy_BINDER_OVER => decide +kernel)
      (case vs_BINDER_OVER => kernel_rfl)
      (case g_FIGURES => k_is)
      (case g_MOST_FIGURE => k_is)
      (case g_KeeperError => k_is)
      (case g_Great => k_is)
      (case g_NoPlace => k_is)
      (case g_NoStep => k_is)
      (case g_Dry => k_is)
      (case g_NoVariable => k_is)
      (case g_NoName => k_is)
      (case g_NotAll => k_is)
      (case g_NotSome => k_is)
      (case g_NotSame => k_is)
      (case g_Unlike => k_is)
      (case g_NoText => k_is)
      (case g_NoWord => k_is)
      (case g_TwiceTold => k_is)
      (case g_NotClosed => k_is)
      (case g_Form => k_is)
      (case pg_Form => k_is)
      (case hd_Form => k_is)
      (case po_Form => k_is)
      (case sa_Form => k_is)
      (case mk_Form => k_is)
      (case kp_Form => k_is)
      (case na_Form_word => k_is)
      (case na_Form_name => k_is)
      (case na_Form_due => k_is)
      (case na_Form_parts => k_is)
      (case a_Form_init => k_is)
      (case l_Form_init => k_is)
      (case c_Form_init => k_is)
      (case k_Form_init => k_is)
      (case n_Form_init => k_is)
      (case a_Form_binds_here => k_is)
      (case l_Form_binds_here => k_is)
      (case c_Form_binds_here => k_is)
      (case k_Form_binds_here => k_is)
      (case n_Form_binds_here => k_is)
      (case a_Form_is_full => k_is)
      (case l_Form_is_full => k_is)
      (case c_Form_is_full => k_is)
      (case k_Form_is_full => k_is)
      (case n_Form_is_full => k_is)
      (case a_Form_take => k_is)
      (case l_Form_take => k_is)
      (case c_Form_take => k_is)
      (case k_Form_take => k_is)
      (case n_Form_take => k_is)
      (case a_Form_closed => k_is)
      (case l_Form_closed => k_is)
      (case c_Form_closed => k_is)
      (case k_Form_closed => k_is)
      (case n_Form_closed => k_is)
      (case x_nt => kernel_rfl)
      (case x_ke => kernel_rfl)
      (case x_gr => kernel_rfl)
      (case x_c1 => k_is)
      (case x_c2 => k_is)
      (case x_c3 => k_is)
      (case x_c4 => k_is)
      (case x_c5 => k_is)
      (case x_c6 => kernel_rfl)
      (case x_s2 => k_is)
      (case x_k1 => kernel_rfl)
      (case x_k2 => kernel_rfl)
      (case x_a1 => kernel_rfl)
      (case x_a2 => kernel_rfl)
    obtain ⟨t, T⟩ := T
    exact K54.fin T hmg
