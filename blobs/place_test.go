package blobs

import (
	"testing"

	"blobs/index"
)

func TestPlaceOf(t *testing.T) {
	if at := placeOf(index.Place(7)); at != 7 {
		t.Errorf("placeOf = %d", at)
	}
	defer func() {
		if r := recover(); r != "a fault of the program" {
			t.Errorf("another panic goes on as %v", r)
		}
	}()
	placeOf("a fault of the program")
}
