"""The tests of luckwright."""
