package folio_test

import (
	"bytes"
	"math/rand"
	"reflect"
	"slices"
	"testing"

	"folio/api"
	"folio/folio"
)

// withRoom lays a list into greater memory, with something behind it.
func withRoom[T any](list []T, behind T) []T {
	return append(slices.Clip(list), behind, behind, behind)[:len(list)]
}

// roomy is the value with lists that have something behind them.
func roomy(v api.Value) api.Value {
	items := slices.Clone(v.Items)
	for i := range items {
		items[i] = roomy(items[i])
	}
	v.Items = withRoom(items, quoted("behind"))
	v.Keys = withRoom(v.Keys, "behind")
	v.Filters = withRoom(v.Filters, 7)
	return v
}

func roomyDocument(d api.Document) api.Document {
	objects := slices.Clone(d.Objects)
	for i := range objects {
		objects[i] = roomy(objects[i])
	}
	return api.Document{Objects: withRoom(objects, quoted("behind")), Root: d.Root}
}

// whole is a copy of the value and all that stands behind its lists.
func whole(v api.Value) api.Value {
	items := slices.Clone(v.Items[:cap(v.Items)])
	for i := range items {
		items[i] = whole(items[i])
	}
	v.Items = items
	v.Keys = slices.Clone(v.Keys[:cap(v.Keys)])
	v.Filters = slices.Clone(v.Filters[:cap(v.Filters)])
	return v
}

func wholeDocument(d api.Document) api.Document {
	return api.Document{Objects: whole(array(d.Objects...)).Items, Root: d.Root}
}

func documentsOfP2() []api.Document {
	all := []api.Document{
		rooted(1, dict()),
		rooted(2, stream(dict("K", integer(7)), "Hi", 1, 3, 4, 2), dict("A", array(integer(1), dict("B", name("n"))), "C", quoted("s"))),
		rooted(1, dict(), stream(dict(), "Hi")),
		rooted(1, dict(), stream(dict(), "", api.Flate)),
		rooted(1, dict(), api.Value{Kind: api.Int, Filters: []int{1}}),
		rooted(1, dict(), stream(dict(), same(api.MaxData), 1, 1, 1, 1)),
	}
	for _, odds := range []int{0, 300} {
		m := &maker{Rand: rand.New(rand.NewSource(2)), odds: odds}
		for range 200 {
			all = append(all, m.document())
		}
	}
	return all
}

func TestP2WriteKeepsNothing(t *testing.T) {
	for _, d := range documentsOfP2() {
		plain, wrong := folio.Write(d)
		plain = bytes.Clone(plain)
		given := roomyDocument(d)
		before := wholeDocument(given)
		first, e := folio.Write(given)
		if e != wrong || !bytes.Equal(first, plain) {
			t.Fatalf("Write(%#v) hangs on what stands behind lists:\n%q, %d, want\n%q, %d", d, first, e, plain, wrong)
		}
		spoil(first)
		if !reflect.DeepEqual(wholeDocument(given), before) {
			t.Fatalf("Write(%#v) wrote into what was handed in: %#v", before, wholeDocument(given))
		}
		second, e := folio.Write(given)
		if e != wrong || !bytes.Equal(second, plain) {
			t.Fatalf("Write(%#v) again:\n%q, %d, want\n%q, %d", d, second, e, plain, wrong)
		}
	}
}
