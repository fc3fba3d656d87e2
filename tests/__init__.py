"""The tests of onesession."""
