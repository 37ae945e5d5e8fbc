"""Oneshard: record patterns that stay in one shard under every sharding rule."""
